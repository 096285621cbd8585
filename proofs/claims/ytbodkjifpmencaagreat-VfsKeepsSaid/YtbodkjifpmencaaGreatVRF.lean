/-
  The calls of the document's disk without room, made anew. No conditions.
-/
import Derived.Test.YtbodkjifpmencaaGreatVRE
import Derived.Test.YtbodkjifpmencaaGreatVC
namespace Go.Proofs.YtbodkjifpmencaaGreat
open Go.RowKit
open Go.Lib

set_option maxRecDepth 100000 in
theorem refcall_any {X : Nat} {w : World} (H : EmptyD X w) (r : Bool) : Calls Tryz.prog 58 #[.pointer (some ⟨X, 0, none⟩), .bool r] w fun e w' => e = .returned (.int .i64 (if r then 0 else 2)) ∧ w' = w := by
  have c5 := H.cell 5
  clear H
  cases r
  · go_enter Tryz.func58, Tryz.ntmps58
    go_wp2
    go_ret
    exact ⟨rfl, rfl⟩
  · go_enter Tryz.func58, Tryz.ntmps58
    go_wp2
    go_ret
    exact ⟨rfl, rfl⟩
set_option maxRecDepth 100000 in
theorem refused_any {X : Nat} {w : World} (H : EmptyD X w) : Calls Tryz.prog 13 #[.pointer (some ⟨X, 0, none⟩)] w fun e w' => e = .returned (.int .i64 0) ∧ w' = w := by
  have c2 := H.cell 2
  clear H
  go_enter Tryz.func13, Tryz.ntmps13
  go_wp2
  go_loopw [3, 11] (fun n i wr => n = .int .i64 0 ∧ i = .int .i64 0 ∧ wr = w) (fun _ _ _ => 0)
  case atStart => exact ⟨rfl, rfl, rfl⟩
  case round =>
    obtain ⟨rfl, rfl, rfl⟩ := hrel
    go_wp2
    go_ret
    exact ⟨rfl, rfl⟩
set_option maxRecDepth 100000 in
theorem refat_any (s : ByteArray) (w : World) : Calls Tryz.prog 36 #[.slice none 0 0, .string s] w fun e w' => e = .returned (.int .i64 (-1)) ∧ w' = w := by
  go_enter Tryz.func36, Tryz.ntmps36
  go_wp2
  go_loopw [9] (fun i wr => i = .int .i64 0 ∧ wr = w) (fun _ _ => 0)
  case atStart => exact ⟨rfl, rfl⟩
  case round =>
    obtain ⟨rfl, rfl⟩ := hrel
    go_wp2
    go_ret
    exact ⟨rfl, rfl⟩
set_option maxRecDepth 100000 in
theorem rdir_any (s : ByteArray) (w : World) (hs : s.size ≤ 281474976710656) : Calls Tryz.prog 41 #[.string s] w fun e w' => e = .returned (.string (bs (splitL s.data.toList).1)) ∧ Below w.heap.size w w' := by
  go_enter Tryz.func41, Tryz.ntmps41
  go_wp2_with (go_at_call 14; (with_reducible refine (rsplit_any s w hs).mono ?_); rintro e w1 ⟨rfl, b1⟩)
  go_ret
  exact ⟨rfl, b1⟩
theorem grown_of_below {w w' : World} (h : Below w.heap.size w w') (row : Option Nat) : w.grownBy w' row := ⟨h.os, h.tape, h.output, h.size, fun k hk _ => h.block k hk⟩
theorem EmptyD.below {X : Nat} {w w' : World} (h : EmptyD X w) (hb : Below w.heap.size w w') : EmptyD X w' := h.off (Off.of_below hb) (fun h => h)
set_option maxRecDepth 100000 in
theorem refappend_any {X : Nat} {w : World} (H : EmptyD X w) (s t : ByteArray) (hs : s.size ≤ 281474976710656) : Calls Tryz.prog 26 #[.pointer (some ⟨X, 0, none⟩), .string s, .string t] w fun e w' => (∃ z, e = .returned (.int .i64 z)) ∧ w.grownBy w' (some X) := by
  have HX := Lib.hid H
  obtain ⟨r, hr⟩ : ∃ r, rightL s.data.toList = r := ⟨_, rfl⟩
  have hri := rright_any s w hs
  rw [hr] at hri
  have HRI := Lib.hid hri
  clear hri hr H
  cases r
  · go_enter Tryz.func26, Tryz.ntmps26
    go_wp2_with (first
      | (go_at_call 59; (with_reducible refine HRI.out.mono ?_); rintro e w1 ⟨rfl, b1⟩)
      | (go_at_call 58; (with_reducible refine (refcall_any (HX.out.below b1) _).mono ?_); rintro e w2 ⟨rfl, rfl⟩))
    go_ret
    exact ⟨⟨_, rfl⟩, grown_of_below b1 _⟩
  · go_enter Tryz.func26, Tryz.ntmps26
    go_wp2_with (first
      | (go_at_call 59; (with_reducible refine HRI.out.mono ?_); rintro e w1 ⟨rfl, b1⟩
         have c2 := (HX.out.below b1).cell 2)
      | (go_at_call 58; (with_reducible refine (refcall_any (HX.out.below b1) _).mono ?_); rintro e w2 ⟨rfl, rfl⟩)
      | (go_at_call 36; (with_reducible refine (refat_any s _).mono ?_); rintro e w3 ⟨rfl, rfl⟩))
    go_ret
    exact ⟨⟨_, rfl⟩, grown_of_below b1 _⟩
set_option maxRecDepth 100000 in
theorem refremove_any {X : Nat} {w : World} (H : EmptyD X w) (s : ByteArray) (hs : s.size ≤ 281474976710656) : Calls Tryz.prog 30 #[.pointer (some ⟨X, 0, none⟩), .string s] w fun e w' => (∃ z, e = .returned (.int .i64 z)) ∧ w.grownBy w' (some X) := by
  have HX := Lib.hid H
  obtain ⟨r, hr⟩ : ∃ r, rightL s.data.toList = r := ⟨_, rfl⟩
  have hri := rright_any s w hs
  rw [hr] at hri
  have HRI := Lib.hid hri
  clear hri hr H
  cases r
  · go_enter Tryz.func30, Tryz.ntmps30
    go_wp2_with (first
      | (go_at_call 59; (with_reducible refine HRI.out.mono ?_); rintro e w1 ⟨rfl, b1⟩)
      | (go_at_call 58; (with_reducible refine (refcall_any (HX.out.below b1) _).mono ?_); rintro e w2 ⟨rfl, rfl⟩))
    go_ret
    exact ⟨⟨_, rfl⟩, grown_of_below b1 _⟩
  · go_enter Tryz.func30, Tryz.ntmps30
    go_wp2_with (first
      | (go_at_call 59; (with_reducible refine HRI.out.mono ?_); rintro e w1 ⟨rfl, b1⟩
         have c2 := (HX.out.below b1).cell 2)
      | (go_at_call 58; (with_reducible refine (refcall_any (HX.out.below b1) _).mono ?_); rintro e w2 ⟨rfl, rfl⟩)
      | (go_at_call 36; (with_reducible refine (refat_any s _).mono ?_); rintro e w3 ⟨rfl, rfl⟩))
    go_ret
    exact ⟨⟨_, rfl⟩, grown_of_below b1 _⟩
set_option maxRecDepth 100000 in
theorem refsync_any {X : Nat} {w : World} (H : EmptyD X w) (s : ByteArray) (hs : s.size ≤ 281474976710656) : Calls Tryz.prog 31 #[.pointer (some ⟨X, 0, none⟩), .string s] w fun e w' => (∃ z, e = .returned (.int .i64 z)) ∧ w.grownBy w' (some X) := by
  have HX := Lib.hid H
  obtain ⟨r, hr⟩ : ∃ r, rightL s.data.toList = r := ⟨_, rfl⟩
  have hri := rright_any s w hs
  rw [hr] at hri
  have HRI := Lib.hid hri
  clear hri hr H
  cases r
  · go_enter Tryz.func31, Tryz.ntmps31
    go_wp2_with (first
      | (go_at_call 59; (with_reducible refine HRI.out.mono ?_); rintro e w1 ⟨rfl, b1⟩)
      | (go_at_call 58; (with_reducible refine (refcall_any (HX.out.below b1) _).mono ?_); rintro e w2 ⟨rfl, rfl⟩))
    go_ret
    exact ⟨⟨_, rfl⟩, grown_of_below b1 _⟩
  · go_enter Tryz.func31, Tryz.ntmps31
    go_wp2_with (first
      | (go_at_call 59; (with_reducible refine HRI.out.mono ?_); rintro e w1 ⟨rfl, b1⟩
         have c2 := (HX.out.below b1).cell 2)
      | (go_at_call 58; (with_reducible refine (refcall_any (HX.out.below b1) _).mono ?_); rintro e w2 ⟨rfl, rfl⟩)
      | (go_at_call 36; (with_reducible refine (refat_any s _).mono ?_); rintro e w3 ⟨rfl, rfl⟩))
    go_ret
    exact ⟨⟨_, rfl⟩, grown_of_below b1 _⟩
set_option maxRecDepth 100000 in
theorem refrename_any {X : Nat} {w : World} (H : EmptyD X w) (s t : ByteArray) (hs : s.size ≤ 281474976710656) (ht : t.size ≤ 281474976710656) : Calls Tryz.prog 28 #[.pointer (some ⟨X, 0, none⟩), .string s, .string t] w fun e w' => (∃ z, e = .returned (.int .i64 z)) ∧ w.grownBy w' (some X) := by
  have HX := Lib.hid H
  have fin : ∀ (r : Bool) W, Kept w W → Hid (Calls Tryz.prog 58 #[.pointer (some ⟨X, 0, none⟩), .bool r] W fun e w' => e = .returned (.int .i64 (if r then 0 else 2)) ∧ w' = W) := fun r W h => Lib.hid (refcall_any (HX.out.below h) r)
  obtain ⟨r1, h1⟩ : ∃ r, rightL s.data.toList = r := ⟨_, rfl⟩
  obtain ⟨r2, h2⟩ : ∃ r, rightL t.data.toList = r := ⟨_, rfl⟩
  have hr1 := rright_any s w hs
  have hr2 : ∀ W, Calls Tryz.prog 59 #[.string t] W fun e w' => e = .returned (.bool r2) ∧ Below W.heap.size W w' := fun W => by
    have h := rright_any t W ht
    rw [h2] at h
    exact h
  rw [h1] at hr1
  obtain ⟨ds, hds⟩ : ∃ x, bs (splitL s.data.toList).1 = x := ⟨_, rfl⟩
  obtain ⟨dt, hdt⟩ : ∃ x, bs (splitL t.data.toList).1 = x := ⟨_, rfl⟩
  have hd1 : ∀ W, Calls Tryz.prog 41 #[.string s] W fun e w' => e = .returned (.string ds) ∧ Below W.heap.size W w' := fun W => by
    have h := rdir_any s W hs
    rw [hds] at h
    exact h
  have hd2 : ∀ W, Calls Tryz.prog 41 #[.string t] W fun e w' => e = .returned (.string dt) ∧ Below W.heap.size W w' := fun W => by
    have h := rdir_any t W ht
    rw [hdt] at h
    exact h
  have HR1 := Lib.hid hr1
  have HR2 := Lib.hid hr2
  have HD1 := Lib.hid hd1
  have HD2 := Lib.hid hd2
  have FIN := Lib.hid fin
  clear hr1 hr2 hd1 hd2 h1 h2 hds hdt H fin
  cases r1
  · go_enter Tryz.func28, Tryz.ntmps28
    go_wp2_with (first
      | (go_at_call 59; (with_reducible refine HR1.out.mono ?_); rintro e w1 ⟨rfl, b1⟩
         have k1 : Kept w w1 := b1)
      | (go_at_call 58; (with_reducible refine (FIN.out _ _ k1).out.mono ?_); rintro e w2 ⟨rfl, rfl⟩))
    go_ret
    exact ⟨⟨_, rfl⟩, grown_of_below b1 _⟩
  · cases r2
    · go_enter Tryz.func28, Tryz.ntmps28
      go_wp2_with (first
        | (go_at_call 59; (with_reducible refine HR1.out.mono ?_); rintro e w1 ⟨rfl, b1⟩)
        | (go_at_call 59; (with_reducible refine (HR2.out _).mono ?_); rintro e w2 ⟨rfl, b2⟩
           have k2 : Kept w w2 := Kept.go (show Kept w w1 from b1) b2)
        | (go_at_call 58; (with_reducible refine (FIN.out _ _ k2).out.mono ?_); rintro e w3 ⟨rfl, rfl⟩))
      go_ret
      exact ⟨⟨_, rfl⟩, grown_of_below k2 _⟩
    · by_cases hdd : (ds.toList == dt.toList) = true
      · go_enter Tryz.func28, Tryz.ntmps28
        go_wp2_with (first
          | (go_at_call 59; (with_reducible refine HR1.out.mono ?_); rintro e w1 ⟨rfl, b1⟩)
          | (go_at_call 59; (with_reducible refine (HR2.out _).mono ?_); rintro e w2 ⟨rfl, b2⟩
             have k2 : Kept w w2 := Kept.go (show Kept w w1 from b1) b2)
          | (go_at_call 41; (with_reducible refine (HD1.out _).mono ?_); rintro e w3 ⟨rfl, b3⟩
             have k3 : Kept w w3 := Kept.go k2 b3)
          | (go_at_call 41; (with_reducible refine (HD2.out _).mono ?_); rintro e w4 ⟨rfl, b4⟩
             have k4 : Kept w w4 := Kept.go k3 b4
             have c2 := (HX.out.below k4).cell 2)
          | (go_at_call 58; (with_reducible refine (FIN.out _ _ k4).out.mono ?_); rintro e w5 ⟨rfl, rfl⟩)
          | (go_at_call 36; (with_reducible refine (refat_any s _).mono ?_); rintro e w6 ⟨rfl, rfl⟩))
        go_ret
        exact ⟨⟨_, rfl⟩, grown_of_below k4 _⟩
      · have hdf : (ds.toList == dt.toList) = false := by simpa using hdd
        go_enter Tryz.func28, Tryz.ntmps28
        go_wp2_with (first
          | (go_at_call 59; (with_reducible refine HR1.out.mono ?_); rintro e w1 ⟨rfl, b1⟩)
          | (go_at_call 59; (with_reducible refine (HR2.out _).mono ?_); rintro e w2 ⟨rfl, b2⟩
             have k2 : Kept w w2 := Kept.go (show Kept w w1 from b1) b2)
          | (go_at_call 41; (with_reducible refine (HD1.out _).mono ?_); rintro e w3 ⟨rfl, b3⟩
             have k3 : Kept w w3 := Kept.go k2 b3)
          | (go_at_call 41; (with_reducible refine (HD2.out _).mono ?_); rintro e w4 ⟨rfl, b4⟩
             have k4 : Kept w w4 := Kept.go k3 b4)
          | (go_at_call 58; (with_reducible refine (FIN.out _ _ k4).out.mono ?_); rintro e w5 ⟨rfl, rfl⟩))
        go_ret
        exact ⟨⟨_, rfl⟩, grown_of_below k4 _⟩
set_option maxRecDepth 100000 in
theorem refkeep_any {X : Nat} {w : World} (H : EmptyD X w) (s : ByteArray) : Calls Tryz.prog 62 #[.pointer (some ⟨X, 0, none⟩), .string s, .int .i64 0] w fun e w' => e = .returned (.tuple #[]) ∧ w.grownBy w' (some X) := by
  have c4 := H.cell 4
  have fr : ∀ k, w.frozen? ⟨X, k, none⟩ = false := fun k => H.free k
  clear H
  go_enter Tryz.func62, Tryz.ntmps62
  go_wp2
  go_loopw [6, 16] (fun r i wr => r = .slice none 0 0 ∧ i = .int .i64 0 ∧ wr = w) (fun _ _ _ => 0)
  case atStart => exact ⟨rfl, rfl, rfl⟩
  case round =>
    obtain ⟨rfl, rfl, rfl⟩ := hrel
    go_wp2
    go_end0
    exact ⟨rfl, grown_set _ X 4 _⟩
set_option maxRecDepth 100000 in
theorem refsyncDir_any {X : Nat} {w : World} (H : EmptyD X w) (s : ByteArray) (hs : s.size ≤ 281474976710656) : Calls Tryz.prog 32 #[.pointer (some ⟨X, 0, none⟩), .string s] w fun e w' => (∃ z, e = .returned (.int .i64 z)) ∧ w.grownBy w' (some X) := by
  have HX := Lib.hid H
  have c4 := H.cell 4
  obtain ⟨r, hr⟩ : ∃ r, isPartL s.data.toList = r := ⟨_, rfl⟩
  have hp := rpart_any s w hs
  rw [hr] at hp
  have HP := Lib.hid hp
  have kp : ∀ W, Below w.heap.size w W → Hid (Calls Tryz.prog 62 #[.pointer (some ⟨X, 0, none⟩), .string s, .int .i64 0] W fun e w' => e = .returned (.tuple #[]) ∧ w.grownBy w' (some X)) := fun W hb => Lib.hid ((refkeep_any (HX.out.below hb) s).mono fun e w' ⟨h1, h2⟩ => ⟨h1, (grown_of_below hb (some X)).trans h2⟩)
  have KP := Lib.hid kp
  clear hp hr H kp
  by_cases he : (s.toList == ([] : List UInt8)) = true
  · go_enter Tryz.func32, Tryz.ntmps32
    go_wp2_with (first
      | (go_at_call 58; (with_reducible refine (refcall_any HX.out _).mono ?_); rintro e w2 ⟨rfl, rfl⟩)
      | (go_at_call 62; (with_reducible refine (KP.out _ (Below.refl _ _)).out.mono ?_); rintro e w3 ⟨rfl, g3⟩))
    go_ret
    exact ⟨⟨_, rfl⟩, g3⟩
  · have hf : (s.toList == ([] : List UInt8)) = false := by simpa using he
    cases r
    · go_enter Tryz.func32, Tryz.ntmps32
      go_wp2_with (first
        | (go_at_call 61; (with_reducible refine HP.out.mono ?_); rintro e w1 ⟨rfl, b1⟩)
        | (go_at_call 58; (with_reducible refine (refcall_any (HX.out.below b1) _).mono ?_); rintro e w2 ⟨rfl, rfl⟩))
      go_ret
      exact ⟨⟨_, rfl⟩, grown_of_below b1 _⟩
    · go_enter Tryz.func32, Tryz.ntmps32
      go_wp2_with (first
        | (go_at_call 61; (with_reducible refine HP.out.mono ?_); rintro e w1 ⟨rfl, b1⟩
           have c4' := (HX.out.below b1).cell 4)
        | (go_at_call 58; (with_reducible refine (refcall_any (HX.out.below b1) _).mono ?_); rintro e w2 ⟨rfl, rfl⟩)
        | (go_at_call 62; (with_reducible refine (KP.out _ b1).out.mono ?_); rintro e w3 ⟨rfl, g3⟩))
      go_ret
      exact ⟨⟨_, rfl⟩, g3⟩
end Go.Proofs.YtbodkjifpmencaaGreat
