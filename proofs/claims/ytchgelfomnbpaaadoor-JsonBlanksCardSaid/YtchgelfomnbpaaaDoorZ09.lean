/-
  Of the proofs of layer 7 (values of JSON): the parts Read Shelf Pts UValid Fixed. No conditions.
-/
import Derived.Test.YtchgelfomnbpaaaDoorZ08
import Derived.Shelf.Strings.BuilderK
import Derived.Shelf.Strings.BuilderRune
import Derived.Shelf.Small.Wraps
import Derived.Shelf.Unicode.DecodeAny
import Derived.Shelf.Unicode.ValidAny
import Derived.Test.YtchgelfomnbpaaaDoorProg
import Derived.WalkSmall
import Derived.Lib.OthersKept
namespace Go.Proofs.YtchgelfomnbpaaaDoor
open Go.RowKit Go.Lib

theorem get_at {t : ByteArray} {k : Nat} {x : UInt8} (hk : k < t.size) (h : t[k] = x) : x.toNat = at_ t k := by
  subst h
  unfold at_
  cases t with
  | mk d => exact congrArg UInt8.toNat (getElem!_pos d k hk).symm
theorem read_low (t : ByteArray) (b0 : UInt8) (w : World) (h0 : 0 < t.size) (hb : t[0] = b0) (hlt : (b0.toNat : Int) < 128) :
    Calls Tryd.prog 65 #[.string t] w (ReadOut (Utf8.decode t 0) w) := by
  have H := Lib.hid (plain_low t (by rw [← get_at h0 hb]; omega))
  have G := Lib.hid (get_at h0 hb)
  go_enter Tryd.func65, Tryd.ntmps65
  go_wp2
  go_ret2
  exact ReadOut.good _ 1 (by rw [H.out, ← G.out]; simp) (by omega) rfl (by omega)
set_option maxRecDepth 100000 in
theorem read_none (t : ByteArray) (b0 : UInt8) (w : World) (h0 : 0 < t.size) (hb : t[0] = b0) (h1 : 128 ≤ (b0.toNat : Int)) (h2 : (b0.toNat : Int) < 194) :
    Calls Tryd.prog 65 #[.string t] w (ReadOut (Utf8.decode t 0) w) := by
  have H := Lib.hid (plain_none t (by rw [← get_at h0 hb]; omega) (by rw [← get_at h0 hb]; omega))
  go_enter Tryd.func65, Tryd.ntmps65
  go_wp2
  go_ret2
  exact ReadOut.bad _ H.out
set_option maxRecDepth 100000 in
theorem read_over (t : ByteArray) (b0 : UInt8) (w : World) (h0 : 0 < t.size) (hb : t[0] = b0) (h1 : 245 ≤ (b0.toNat : Int)) (h2 : (b0.toNat : Int) < 256) :
    Calls Tryd.prog 65 #[.string t] w (ReadOut (Utf8.decode t 0) w) := by
  have H := Lib.hid (plain_none t (by rw [← get_at h0 hb]; omega) (by rw [← get_at h0 hb]; omega))
  go_enter Tryd.func65, Tryd.ntmps65
  go_wp2
  go_ret2
  exact ReadOut.bad _ H.out

set_option maxRecDepth 100000 in
theorem read_short2 (t : ByteArray) (b0 : UInt8) (w : World) (h0 : 0 < t.size) (hb : t[0] = b0) (h1 : 194 ≤ (b0.toNat : Int)) (h2 : (b0.toNat : Int) < 224) (hs : (t.size : Int) < 2) :
    Calls Tryd.prog 65 #[.string t] w (ReadOut (Utf8.decode t 0) w) := by
  have H := Lib.hid (plain_short2 t (by rw [← get_at h0 hb]; omega) (by rw [← get_at h0 hb]; omega) (by omega))
  go_enter Tryd.func65, Tryd.ntmps65
  go_wp2
  go_ret2
  exact ReadOut.bad _ H.out
set_option maxRecDepth 100000 in
set_option maxHeartbeats 1000000 in
theorem read_long2 (t : ByteArray) (b0 : UInt8) (w : World) (h0 : 0 < t.size) (hb : t[0] = b0) (h1 : 194 ≤ (b0.toNat : Int)) (h2 : (b0.toNat : Int) < 224) (hs : 2 ≤ (t.size : Int)) (hm : (t.size : Int) ≤ 9223372036854775807) :
    Calls Tryd.prog 65 #[.string t] w (ReadOut (Utf8.decode t 0) w) := by
  have G := Lib.hid (get_at h0 hb)
  have g1 : 194 ≤ at_ t 0 := by rw [← get_at h0 hb]; omega
  have g2 : at_ t 0 < 224 := by rw [← get_at h0 hb]; omega
  go_enter Tryd.func65, Tryd.ntmps65
  go_wp2
  go_loop [4, 7] (fun b i => ∃ k : Nat, 1 ≤ k ∧ k ≤ 2 ∧ i = .int .i64 k ∧ Hid (ContN t k) ∧ b = .int .i64 (accN ((b0.toNat : Int) - 192) t k)) (fun _ i => 2 - (intOf i).toNat)
  case atStart => exact ⟨1, Nat.le_refl _, by omega, rfl, (fun j a b => by omega), rfl⟩
  case round =>
    obtain ⟨k, hk1, hk2, rfl, hC, rfl⟩ := hrel
    have hbd := acc_bound ((b0.toNat : Int) - 192) t (by omega) (by omega) k (by omega) hC.out
    obtain ⟨A, HA⟩ : ∃ A, accN ((b0.toNat : Int) - 192) t k = A := ⟨_, rfl⟩
    rw [HA] at hbd ⊢
    obtain ⟨hA0, hA1⟩ := hbd
    have HA := Lib.hid HA
    by_cases hlt : k < 2
    · have hkt : k < t.size := by omega
      obtain ⟨x, hx⟩ : ∃ x, t[k] = x := ⟨_, rfl⟩
      have hx256 : (x.toNat : Int) < 256 := by have := UInt8.toNat_lt x; omega
      have GX := Lib.hid (get_at hkt hx)
      by_cases hok : 128 ≤ (x.toNat : Int) ∧ (x.toNat : Int) < 192
      · obtain ⟨o1, o2⟩ := hok
        go_wp2
        go_round
        case rel =>
          refine ⟨k + 1, by omega, by omega, by go_num, cont_more hC.out (by have := GX.out; omega) (by have := GX.out; omega), ?_⟩
          rw [acc_more _ _ _ hk1, HA.out, ← GX.out]
        case measure => simp [intOf]; omega
      · have H := Lib.hid (plain_bad2 t k g1 g2 hk1 hlt (by rw [← get_at hkt hx]; omega))
        by_cases o1 : (x.toNat : Int) < 128
        · go_wp2
          go_ret2
          exact ReadOut.bad _ H.out
        · have o2 : 192 ≤ (x.toNat : Int) := by omega
          clear hok
          go_wp2
          go_ret2
          exact ReadOut.bad _ H.out
    · have ek : k = 2 := by omega
      subst ek
      have E := Lib.hid (plain_end2 t g1 g2 (by omega) hC.out)
      rw [← G.out] at E
      have E := Lib.hid (show Utf8.decode t 0 = if A < 128 ∨ isPt A = false then (65533, 1) else (A.toNat, 2) by rw [← HA.out]; exact E.out)
      by_cases q1 : A < 128
      · go_wp2_with (go_at_call 76; refine (is_any _ _).mono ?_; rintro e w' ⟨rfl, rfl⟩)
        go_ret2
        exact ReadOut.bad _ (by rw [E.out, if_pos (.inl q1)])
      · cases q2 : isPt A with
        | false =>
          go_wp2_with (go_at_call 76; refine (is_any _ _).mono ?_; rintro e w' ⟨rfl, rfl⟩)
          go_ret2
          exact ReadOut.bad _ (by rw [E.out, if_pos (.inr q2)])
        | true =>
          go_wp2_with (go_at_call 76; refine (is_any _ _).mono ?_; rintro e w' ⟨rfl, rfl⟩)
          go_ret2
          exact ReadOut.good _ 2 (by rw [E.out, if_neg (by rw [q2]; simp; omega)]) (by omega) rfl (by omega)

set_option maxRecDepth 100000 in
theorem read_short3 (t : ByteArray) (b0 : UInt8) (w : World) (h0 : 0 < t.size) (hb : t[0] = b0) (h1 : 224 ≤ (b0.toNat : Int)) (h2 : (b0.toNat : Int) < 240) (hs : (t.size : Int) < 3) :
    Calls Tryd.prog 65 #[.string t] w (ReadOut (Utf8.decode t 0) w) := by
  have H := Lib.hid (plain_short3 t (by rw [← get_at h0 hb]; omega) (by rw [← get_at h0 hb]; omega) (by omega))
  go_enter Tryd.func65, Tryd.ntmps65
  go_wp2
  go_ret2
  exact ReadOut.bad _ H.out
set_option maxRecDepth 100000 in
set_option maxHeartbeats 1000000 in
theorem read_long3 (t : ByteArray) (b0 : UInt8) (w : World) (h0 : 0 < t.size) (hb : t[0] = b0) (h1 : 224 ≤ (b0.toNat : Int)) (h2 : (b0.toNat : Int) < 240) (hs : 3 ≤ (t.size : Int)) (hm : (t.size : Int) ≤ 9223372036854775807) :
    Calls Tryd.prog 65 #[.string t] w (ReadOut (Utf8.decode t 0) w) := by
  have G := Lib.hid (get_at h0 hb)
  have g1 : 224 ≤ at_ t 0 := by rw [← get_at h0 hb]; omega
  have g2 : at_ t 0 < 240 := by rw [← get_at h0 hb]; omega
  go_enter Tryd.func65, Tryd.ntmps65
  go_wp2
  go_loop [4, 7] (fun b i => ∃ k : Nat, 1 ≤ k ∧ k ≤ 3 ∧ i = .int .i64 k ∧ Hid (ContN t k) ∧ b = .int .i64 (accN ((b0.toNat : Int) - 224) t k)) (fun _ i => 3 - (intOf i).toNat)
  case atStart => exact ⟨1, Nat.le_refl _, by omega, rfl, (fun j a b => by omega), rfl⟩
  case round =>
    obtain ⟨k, hk1, hk2, rfl, hC, rfl⟩ := hrel
    have hbd := acc_bound ((b0.toNat : Int) - 224) t (by omega) (by omega) k (by omega) hC.out
    obtain ⟨A, HA⟩ : ∃ A, accN ((b0.toNat : Int) - 224) t k = A := ⟨_, rfl⟩
    rw [HA] at hbd ⊢
    obtain ⟨hA0, hA1⟩ := hbd
    have HA := Lib.hid HA
    by_cases hlt : k < 3
    · have hkt : k < t.size := by omega
      obtain ⟨x, hx⟩ : ∃ x, t[k] = x := ⟨_, rfl⟩
      have hx256 : (x.toNat : Int) < 256 := by have := UInt8.toNat_lt x; omega
      have GX := Lib.hid (get_at hkt hx)
      by_cases hok : 128 ≤ (x.toNat : Int) ∧ (x.toNat : Int) < 192
      · obtain ⟨o1, o2⟩ := hok
        go_wp2
        go_round
        case rel =>
          refine ⟨k + 1, by omega, by omega, by go_num, cont_more hC.out (by have := GX.out; omega) (by have := GX.out; omega), ?_⟩
          rw [acc_more _ _ _ hk1, HA.out, ← GX.out]
        case measure => simp [intOf]; omega
      · have H := Lib.hid (plain_bad3 t k g1 g2 hk1 hlt (by rw [← get_at hkt hx]; omega))
        by_cases o1 : (x.toNat : Int) < 128
        · go_wp2
          go_ret2
          exact ReadOut.bad _ H.out
        · have o2 : 192 ≤ (x.toNat : Int) := by omega
          clear hok
          go_wp2
          go_ret2
          exact ReadOut.bad _ H.out
    · have ek : k = 3 := by omega
      subst ek
      have E := Lib.hid (plain_end3 t g1 g2 (by omega) hC.out)
      rw [← G.out] at E
      have E := Lib.hid (show Utf8.decode t 0 = if A < 2048 ∨ isPt A = false then (65533, 1) else (A.toNat, 3) by rw [← HA.out]; exact E.out)
      by_cases q1 : A < 2048
      · go_wp2_with (go_at_call 76; refine (is_any _ _).mono ?_; rintro e w' ⟨rfl, rfl⟩)
        go_ret2
        exact ReadOut.bad _ (by rw [E.out, if_pos (.inl q1)])
      · cases q2 : isPt A with
        | false =>
          go_wp2_with (go_at_call 76; refine (is_any _ _).mono ?_; rintro e w' ⟨rfl, rfl⟩)
          go_ret2
          exact ReadOut.bad _ (by rw [E.out, if_pos (.inr q2)])
        | true =>
          go_wp2_with (go_at_call 76; refine (is_any _ _).mono ?_; rintro e w' ⟨rfl, rfl⟩)
          go_ret2
          exact ReadOut.good _ 3 (by rw [E.out, if_neg (by rw [q2]; simp; omega)]) (by omega) rfl (by omega)

set_option maxRecDepth 100000 in
theorem read_short4 (t : ByteArray) (b0 : UInt8) (w : World) (h0 : 0 < t.size) (hb : t[0] = b0) (h1 : 240 ≤ (b0.toNat : Int)) (h2 : (b0.toNat : Int) < 245) (hs : (t.size : Int) < 4) :
    Calls Tryd.prog 65 #[.string t] w (ReadOut (Utf8.decode t 0) w) := by
  have H := Lib.hid (plain_short4 t (by rw [← get_at h0 hb]; omega) (by rw [← get_at h0 hb]; omega) (by omega))
  go_enter Tryd.func65, Tryd.ntmps65
  go_wp2
  go_ret2
  exact ReadOut.bad _ H.out
set_option maxRecDepth 100000 in
set_option maxHeartbeats 1000000 in
theorem read_long4 (t : ByteArray) (b0 : UInt8) (w : World) (h0 : 0 < t.size) (hb : t[0] = b0) (h1 : 240 ≤ (b0.toNat : Int)) (h2 : (b0.toNat : Int) < 245) (hs : 4 ≤ (t.size : Int)) (hm : (t.size : Int) ≤ 9223372036854775807) :
    Calls Tryd.prog 65 #[.string t] w (ReadOut (Utf8.decode t 0) w) := by
  have G := Lib.hid (get_at h0 hb)
  have g1 : 240 ≤ at_ t 0 := by rw [← get_at h0 hb]; omega
  have g2 : at_ t 0 < 245 := by rw [← get_at h0 hb]; omega
  go_enter Tryd.func65, Tryd.ntmps65
  go_wp2
  go_loop [4, 7] (fun b i => ∃ k : Nat, 1 ≤ k ∧ k ≤ 4 ∧ i = .int .i64 k ∧ Hid (ContN t k) ∧ b = .int .i64 (accN ((b0.toNat : Int) - 240) t k)) (fun _ i => 4 - (intOf i).toNat)
  case atStart => exact ⟨1, Nat.le_refl _, by omega, rfl, (fun j a b => by omega), rfl⟩
  case round =>
    obtain ⟨k, hk1, hk2, rfl, hC, rfl⟩ := hrel
    have hbd := acc_bound ((b0.toNat : Int) - 240) t (by omega) (by omega) k (by omega) hC.out
    obtain ⟨A, HA⟩ : ∃ A, accN ((b0.toNat : Int) - 240) t k = A := ⟨_, rfl⟩
    rw [HA] at hbd ⊢
    obtain ⟨hA0, hA1⟩ := hbd
    have HA := Lib.hid HA
    by_cases hlt : k < 4
    · have hkt : k < t.size := by omega
      obtain ⟨x, hx⟩ : ∃ x, t[k] = x := ⟨_, rfl⟩
      have hx256 : (x.toNat : Int) < 256 := by have := UInt8.toNat_lt x; omega
      have GX := Lib.hid (get_at hkt hx)
      by_cases hok : 128 ≤ (x.toNat : Int) ∧ (x.toNat : Int) < 192
      · obtain ⟨o1, o2⟩ := hok
        go_wp2
        go_round
        case rel =>
          refine ⟨k + 1, by omega, by omega, by go_num, cont_more hC.out (by have := GX.out; omega) (by have := GX.out; omega), ?_⟩
          rw [acc_more _ _ _ hk1, HA.out, ← GX.out]
        case measure => simp [intOf]; omega
      · have H := Lib.hid (plain_bad4 t k g1 g2 hk1 hlt (by rw [← get_at hkt hx]; omega))
        by_cases o1 : (x.toNat : Int) < 128
        · go_wp2
          go_ret2
          exact ReadOut.bad _ H.out
        · have o2 : 192 ≤ (x.toNat : Int) := by omega
          clear hok
          go_wp2
          go_ret2
          exact ReadOut.bad _ H.out
    · have ek : k = 4 := by omega
      subst ek
      have E := Lib.hid (plain_end4 t g1 g2 (by omega) hC.out)
      rw [← G.out] at E
      have E := Lib.hid (show Utf8.decode t 0 = if A < 65536 ∨ isPt A = false then (65533, 1) else (A.toNat, 4) by rw [← HA.out]; exact E.out)
      by_cases q1 : A < 65536
      · go_wp2_with (go_at_call 76; refine (is_any _ _).mono ?_; rintro e w' ⟨rfl, rfl⟩)
        go_ret2
        exact ReadOut.bad _ (by rw [E.out, if_pos (.inl q1)])
      · cases q2 : isPt A with
        | false =>
          go_wp2_with (go_at_call 76; refine (is_any _ _).mono ?_; rintro e w' ⟨rfl, rfl⟩)
          go_ret2
          exact ReadOut.bad _ (by rw [E.out, if_pos (.inr q2)])
        | true =>
          go_wp2_with (go_at_call 76; refine (is_any _ _).mono ?_; rintro e w' ⟨rfl, rfl⟩)
          go_ret2
          exact ReadOut.good _ 4 (by rw [E.out, if_neg (by rw [q2]; simp; omega)]) (by omega) rfl (by omega)

theorem read_any (t : ByteArray) (w : World) (h0 : 0 < t.size) (hm : t.size ≤ 9223372036854775807) : Calls Tryd.prog 65 #[.string t] w (ReadOut (Utf8.decode t 0) w) := by
  obtain ⟨b0, hb⟩ : ∃ b0, t[0] = b0 := ⟨_, rfl⟩
  have hz := UInt8.toNat_lt b0
  by_cases c1 : b0.toNat < 128
  · exact read_low t b0 w h0 hb (by omega)
  by_cases c2 : b0.toNat < 194
  · exact read_none t b0 w h0 hb (by omega) (by omega)
  by_cases c3 : 245 ≤ b0.toNat
  · exact read_over t b0 w h0 hb (by omega) (by omega)
  by_cases c4 : b0.toNat < 224
  · by_cases s : t.size < 2
    · exact read_short2 t b0 w h0 hb (by omega) (by omega) (by omega)
    · exact read_long2 t b0 w h0 hb (by omega) (by omega) (by omega) (by omega)
  by_cases c5 : b0.toNat < 240
  · by_cases s : t.size < 3
    · exact read_short3 t b0 w h0 hb (by omega) (by omega) (by omega)
    · exact read_long3 t b0 w h0 hb (by omega) (by omega) (by omega) (by omega)
  · by_cases s : t.size < 4
    · exact read_short4 t b0 w h0 hb (by omega) (by omega) (by omega)
    · exact read_long4 t b0 w h0 hb (by omega) (by omega) (by omega) (by omega)
end Go.Proofs.YtchgelfomnbpaaaDoor
namespace Go.Proofs.YtchgelfomnbpaaaDoor
open Go.Shelf Go.RowKit
def Tryd.lays169_ren : Go.Shelf.Ren := ⟨fun | 169 => 27 | n => n, fun | 0 => 0 | 3 => 3 | 5 => 5 | 9 => 9 | 37 => 22 | 70 => 59 | 72 => 61 | 127 => 80 | n => n, fun | n => n⟩
theorem Tryd.lays169 : Go.Proofs.Lays.n169 Tryd.prog Tryd.lays169_ren := {
  mixed := by kernel_rfl
  f169 := Tryd.func27.trans (congrArg some (by kernel_rfl))
  t0 := Tryd.underlying0
  a0 := Tryd.isAgg0
  z0 := Tryd.sizeOf0
  v0 := Tryd.zeroValue0
  t3 := Tryd.underlying3
  a3 := Tryd.isAgg3
  z3 := Tryd.sizeOf3
  v3 := Tryd.zeroValue3
  t9 := Tryd.underlying9
  a9 := Tryd.isAgg9
  z9 := Tryd.sizeOf9
  v9 := Tryd.zeroValue9
  t37 := Tryd.underlying22
  a37 := Tryd.isAgg22
  z37 := Tryd.sizeOf22
  v37 := Tryd.zeroValue22
  t70 := Tryd.underlying59
  a70 := Tryd.isAgg59
  z70 := Tryd.sizeOf59
  v70 := Tryd.zeroValue59
  t72 := Tryd.underlying61
  a72 := Tryd.isAgg61
  z72 := Tryd.sizeOf61
  v72 := Tryd.zeroValue61
  t127 := Tryd.underlying80
  a127 := Tryd.isAgg80
  z127 := Tryd.sizeOf80
  v127 := Tryd.zeroValue80 }
theorem Tryd.Builder_Extra_169 : Builder.Extra Tryd.prog Tryd.lays169_ren := {
  sizeBuilder := by kernel_rfl
  liesBuilder := by kernel_rfl
  t5 := Tryd.underlying5
  a5 := Tryd.isAgg5
  z5 := Tryd.sizeOf5
  v5 := Tryd.zeroValue5
  infoByte := by kernel_rfl
  cellsByte := by kernel_rfl
  sizeByte := by kernel_rfl
  neB5 := by decide }
def Tryd.lays167_ren : Go.Shelf.Ren := ⟨fun | 167 => 61 | 240 => 60 | 276 => 82 | n => n, fun | 0 => 0 | 4 => 4 | 5 => 5 | 9 => 9 | 20 => 20 | 37 => 22 | 70 => 59 | 72 => 61 | 75 => 76 | 80 => 63 | 164 => 112 | n => n, fun | n => n⟩
theorem Tryd.lays167 : Go.Proofs.Lays.n167 Tryd.prog Tryd.lays167_ren := {
  mixed := by kernel_rfl
  f167 := Tryd.func61.trans (congrArg some (by kernel_rfl))
  f240 := Tryd.func60.trans (congrArg some (by kernel_rfl))
  f276 := Tryd.func82.trans (congrArg some (by kernel_rfl))
  t0 := Tryd.underlying0
  a0 := Tryd.isAgg0
  z0 := Tryd.sizeOf0
  v0 := Tryd.zeroValue0
  t4 := Tryd.underlying4
  a4 := Tryd.isAgg4
  z4 := Tryd.sizeOf4
  v4 := Tryd.zeroValue4
  t5 := Tryd.underlying5
  a5 := Tryd.isAgg5
  z5 := Tryd.sizeOf5
  v5 := Tryd.zeroValue5
  t9 := Tryd.underlying9
  a9 := Tryd.isAgg9
  z9 := Tryd.sizeOf9
  v9 := Tryd.zeroValue9
  t20 := Tryd.underlying20
  a20 := Tryd.isAgg20
  z20 := Tryd.sizeOf20
  v20 := Tryd.zeroValue20
  t37 := Tryd.underlying22
  a37 := Tryd.isAgg22
  z37 := Tryd.sizeOf22
  v37 := Tryd.zeroValue22
  t70 := Tryd.underlying59
  a70 := Tryd.isAgg59
  z70 := Tryd.sizeOf59
  v70 := Tryd.zeroValue59
  t72 := Tryd.underlying61
  a72 := Tryd.isAgg61
  z72 := Tryd.sizeOf61
  v72 := Tryd.zeroValue61
  t75 := Tryd.underlying76
  a75 := Tryd.isAgg76
  z75 := Tryd.sizeOf76
  v75 := Tryd.zeroValue76
  t164 := Tryd.underlying112
  a164 := Tryd.isAgg112
  z164 := Tryd.sizeOf112
  v164 := Tryd.zeroValue112 }
theorem Tryd.Builder_Extra_167 : Builder.Extra Tryd.prog Tryd.lays167_ren := {
  sizeBuilder := by kernel_rfl
  liesBuilder := by kernel_rfl
  t5 := Tryd.underlying5
  a5 := Tryd.isAgg5
  z5 := Tryd.sizeOf5
  v5 := Tryd.zeroValue5
  infoByte := by kernel_rfl
  cellsByte := by kernel_rfl
  sizeByte := by kernel_rfl
  neB5 := by decide }
def Tryd.lays168_ren : Go.Shelf.Ren := ⟨fun | 168 => 85 | 240 => 60 | 242 => 96 | 276 => 82 | 278 => 102 | n => n, fun | 0 => 0 | 3 => 3 | 4 => 4 | 5 => 5 | 9 => 9 | 20 => 20 | 21 => 21 | 37 => 22 | 46 => 37 | 51 => 36 | 70 => 59 | 72 => 61 | 75 => 76 | 80 => 63 | 164 => 112 | n => n, fun | n => n⟩
theorem Tryd.lays168 : Go.Proofs.Lays.n168 Tryd.prog Tryd.lays168_ren := {
  mixed := by kernel_rfl
  f168 := Tryd.func85.trans (congrArg some (by kernel_rfl))
  f240 := Tryd.func60.trans (congrArg some (by kernel_rfl))
  f242 := Tryd.func96.trans (congrArg some (by kernel_rfl))
  f276 := Tryd.func82.trans (congrArg some (by kernel_rfl))
  f278 := Tryd.func102.trans (congrArg some (by kernel_rfl))
  t0 := Tryd.underlying0
  a0 := Tryd.isAgg0
  z0 := Tryd.sizeOf0
  v0 := Tryd.zeroValue0
  t3 := Tryd.underlying3
  a3 := Tryd.isAgg3
  z3 := Tryd.sizeOf3
  v3 := Tryd.zeroValue3
  t4 := Tryd.underlying4
  a4 := Tryd.isAgg4
  z4 := Tryd.sizeOf4
  v4 := Tryd.zeroValue4
  t5 := Tryd.underlying5
  a5 := Tryd.isAgg5
  z5 := Tryd.sizeOf5
  v5 := Tryd.zeroValue5
  t9 := Tryd.underlying9
  a9 := Tryd.isAgg9
  z9 := Tryd.sizeOf9
  v9 := Tryd.zeroValue9
  t20 := Tryd.underlying20
  a20 := Tryd.isAgg20
  z20 := Tryd.sizeOf20
  v20 := Tryd.zeroValue20
  t21 := Tryd.underlying21
  a21 := Tryd.isAgg21
  z21 := Tryd.sizeOf21
  v21 := Tryd.zeroValue21
  t37 := Tryd.underlying22
  a37 := Tryd.isAgg22
  z37 := Tryd.sizeOf22
  v37 := Tryd.zeroValue22
  t46 := Tryd.underlying37
  a46 := Tryd.isAgg37
  z46 := Tryd.sizeOf37
  v46 := Tryd.zeroValue37
  t51 := Tryd.underlying36
  a51 := Tryd.isAgg36
  z51 := Tryd.sizeOf36
  v51 := Tryd.zeroValue36
  t70 := Tryd.underlying59
  a70 := Tryd.isAgg59
  z70 := Tryd.sizeOf59
  v70 := Tryd.zeroValue59
  t72 := Tryd.underlying61
  a72 := Tryd.isAgg61
  z72 := Tryd.sizeOf61
  v72 := Tryd.zeroValue61
  t75 := Tryd.underlying76
  a75 := Tryd.isAgg76
  z75 := Tryd.sizeOf76
  v75 := Tryd.zeroValue76
  t164 := Tryd.underlying112
  a164 := Tryd.isAgg112
  z164 := Tryd.sizeOf112
  v164 := Tryd.zeroValue112 }
theorem Tryd.Builder_Extra_168 : Builder.Extra Tryd.prog Tryd.lays168_ren := {
  sizeBuilder := by kernel_rfl
  liesBuilder := by kernel_rfl
  t5 := Tryd.underlying5
  a5 := Tryd.isAgg5
  z5 := Tryd.sizeOf5
  v5 := Tryd.zeroValue5
  infoByte := by kernel_rfl
  cellsByte := by kernel_rfl
  sizeByte := by kernel_rfl
  neB5 := by decide }
def Tryd.lays166_ren : Go.Shelf.Ren := ⟨fun | 166 => 44 | 240 => 60 | 276 => 82 | n => n, fun | 0 => 0 | 3 => 3 | 4 => 4 | 5 => 5 | 9 => 9 | 20 => 20 | 37 => 22 | 70 => 59 | 72 => 61 | 75 => 76 | 80 => 63 | 164 => 112 | n => n, fun | n => n⟩
theorem Tryd.lays166 : Go.Proofs.Lays.n166 Tryd.prog Tryd.lays166_ren := {
  mixed := by kernel_rfl
  f166 := Tryd.func44.trans (congrArg some (by kernel_rfl))
  f240 := Tryd.func60.trans (congrArg some (by kernel_rfl))
  f276 := Tryd.func82.trans (congrArg some (by kernel_rfl))
  t0 := Tryd.underlying0
  a0 := Tryd.isAgg0
  z0 := Tryd.sizeOf0
  v0 := Tryd.zeroValue0
  t3 := Tryd.underlying3
  a3 := Tryd.isAgg3
  z3 := Tryd.sizeOf3
  v3 := Tryd.zeroValue3
  t4 := Tryd.underlying4
  a4 := Tryd.isAgg4
  z4 := Tryd.sizeOf4
  v4 := Tryd.zeroValue4
  t9 := Tryd.underlying9
  a9 := Tryd.isAgg9
  z9 := Tryd.sizeOf9
  v9 := Tryd.zeroValue9
  t20 := Tryd.underlying20
  a20 := Tryd.isAgg20
  z20 := Tryd.sizeOf20
  v20 := Tryd.zeroValue20
  t37 := Tryd.underlying22
  a37 := Tryd.isAgg22
  z37 := Tryd.sizeOf22
  v37 := Tryd.zeroValue22
  t70 := Tryd.underlying59
  a70 := Tryd.isAgg59
  z70 := Tryd.sizeOf59
  v70 := Tryd.zeroValue59
  t72 := Tryd.underlying61
  a72 := Tryd.isAgg61
  z72 := Tryd.sizeOf61
  v72 := Tryd.zeroValue61
  t75 := Tryd.underlying76
  a75 := Tryd.isAgg76
  z75 := Tryd.sizeOf76
  v75 := Tryd.zeroValue76
  t164 := Tryd.underlying112
  a164 := Tryd.isAgg112
  z164 := Tryd.sizeOf112
  v164 := Tryd.zeroValue112 }
theorem Tryd.Builder_Extra_166 : Builder.Extra Tryd.prog Tryd.lays166_ren := {
  sizeBuilder := by kernel_rfl
  liesBuilder := by kernel_rfl
  t5 := Tryd.underlying5
  a5 := Tryd.isAgg5
  z5 := Tryd.sizeOf5
  v5 := Tryd.zeroValue5
  infoByte := by kernel_rfl
  cellsByte := by kernel_rfl
  sizeByte := by kernel_rfl
  neB5 := by decide }
def Tryd.lays196_ren : Go.Shelf.Ren := ⟨fun | 196 => 59 | 259 => 81 | n => n, fun | 0 => 0 | 3 => 3 | 4 => 4 | 5 => 5 | 9 => 9 | 12 => 12 | 46 => 37 | 53 => 122 | 119 => 108 | 138 => 110 | 139 => 111 | n => n, fun | 3 => 0 | 4 => 1 | n => n⟩
theorem Tryd.lays196 : Go.Proofs.Lays.n196 Tryd.prog Tryd.lays196_ren := {
  mixed := by kernel_rfl
  f196 := Tryd.func59.trans (congrArg some (by kernel_rfl))
  f259 := Tryd.func81.trans (congrArg some (by kernel_rfl))
  t0 := Tryd.underlying0
  a0 := Tryd.isAgg0
  z0 := Tryd.sizeOf0
  v0 := Tryd.zeroValue0
  t3 := Tryd.underlying3
  a3 := Tryd.isAgg3
  z3 := Tryd.sizeOf3
  v3 := Tryd.zeroValue3
  t4 := Tryd.underlying4
  a4 := Tryd.isAgg4
  z4 := Tryd.sizeOf4
  v4 := Tryd.zeroValue4
  t5 := Tryd.underlying5
  a5 := Tryd.isAgg5
  z5 := Tryd.sizeOf5
  v5 := Tryd.zeroValue5
  t9 := Tryd.underlying9
  a9 := Tryd.isAgg9
  z9 := Tryd.sizeOf9
  v9 := Tryd.zeroValue9
  t12 := Tryd.underlying12
  a12 := Tryd.isAgg12
  z12 := Tryd.sizeOf12
  v12 := Tryd.zeroValue12
  t46 := Tryd.underlying37
  a46 := Tryd.isAgg37
  z46 := Tryd.sizeOf37
  v46 := Tryd.zeroValue37
  t53 := Tryd.underlying122
  a53 := Tryd.isAgg122
  z53 := Tryd.sizeOf122
  v53 := Tryd.zeroValue122
  t119 := Tryd.underlying108
  a119 := Tryd.isAgg108
  z119 := Tryd.sizeOf108
  t138 := Tryd.underlying110
  a138 := Tryd.isAgg110
  z138 := Tryd.sizeOf110
  v138 := Tryd.zeroValue110
  t139 := Tryd.underlying111
  a139 := Tryd.isAgg111
  z139 := Tryd.sizeOf111
  v139 := Tryd.zeroValue111
  g3 := by kernel_rfl
  g4 := by kernel_rfl }
def Tryd.lays197_ren : Go.Shelf.Ren := ⟨fun | 197 => 91 | 260 => 99 | n => n, fun | 0 => 0 | 3 => 3 | 4 => 4 | 5 => 5 | 9 => 9 | 21 => 21 | 46 => 37 | 105 => 117 | 119 => 108 | 138 => 110 | 139 => 111 | n => n, fun | 3 => 0 | 4 => 1 | n => n⟩
theorem Tryd.lays197 : Go.Proofs.Lays.n197 Tryd.prog Tryd.lays197_ren := {
  mixed := by kernel_rfl
  f197 := Tryd.func91.trans (congrArg some (by kernel_rfl))
  f260 := Tryd.func99.trans (congrArg some (by kernel_rfl))
  t0 := Tryd.underlying0
  a0 := Tryd.isAgg0
  z0 := Tryd.sizeOf0
  v0 := Tryd.zeroValue0
  t3 := Tryd.underlying3
  a3 := Tryd.isAgg3
  z3 := Tryd.sizeOf3
  v3 := Tryd.zeroValue3
  t4 := Tryd.underlying4
  a4 := Tryd.isAgg4
  z4 := Tryd.sizeOf4
  v4 := Tryd.zeroValue4
  t5 := Tryd.underlying5
  a5 := Tryd.isAgg5
  z5 := Tryd.sizeOf5
  v5 := Tryd.zeroValue5
  t9 := Tryd.underlying9
  a9 := Tryd.isAgg9
  z9 := Tryd.sizeOf9
  v9 := Tryd.zeroValue9
  t21 := Tryd.underlying21
  a21 := Tryd.isAgg21
  z21 := Tryd.sizeOf21
  v21 := Tryd.zeroValue21
  t46 := Tryd.underlying37
  a46 := Tryd.isAgg37
  z46 := Tryd.sizeOf37
  v46 := Tryd.zeroValue37
  t105 := Tryd.underlying117
  a105 := Tryd.isAgg117
  z105 := Tryd.sizeOf117
  v105 := Tryd.zeroValue117
  t119 := Tryd.underlying108
  a119 := Tryd.isAgg108
  z119 := Tryd.sizeOf108
  t138 := Tryd.underlying110
  a138 := Tryd.isAgg110
  z138 := Tryd.sizeOf110
  v138 := Tryd.zeroValue110
  t139 := Tryd.underlying111
  a139 := Tryd.isAgg111
  z139 := Tryd.sizeOf111
  v139 := Tryd.zeroValue111
  g3 := by kernel_rfl
  g4 := by kernel_rfl }
def Tryd.lays103_ren : Go.Shelf.Ren := ⟨fun | 103 => 67 | 206 => 97 | 210 => 87 | n => n, fun | 3 => 3 | 4 => 4 | 9 => 9 | 24 => 71 | n => n, fun | n => n⟩
theorem Tryd.lays103 : Go.Proofs.Lays.n103 Tryd.prog Tryd.lays103_ren := {
  mixed := by kernel_rfl
  f103 := Tryd.func67.trans (congrArg some (by kernel_rfl))
  f206 := Tryd.func97.trans (congrArg some (by kernel_rfl))
  f210 := Tryd.func87.trans (congrArg some (by kernel_rfl))
  t3 := Tryd.underlying3
  a3 := Tryd.isAgg3
  z3 := Tryd.sizeOf3
  v3 := Tryd.zeroValue3
  t4 := Tryd.underlying4
  a4 := Tryd.isAgg4
  z4 := Tryd.sizeOf4
  v4 := Tryd.zeroValue4
  t9 := Tryd.underlying9
  a9 := Tryd.isAgg9
  z9 := Tryd.sizeOf9
  v9 := Tryd.zeroValue9
  t24 := Tryd.underlying71
  a24 := Tryd.isAgg71
  z24 := Tryd.sizeOf71
  v24 := Tryd.zeroValue71 }
theorem sbByte (B b : Nat) (bs : List Value) (c : Int) (w : World) (h : Lib.IsBuilderF 61 5 B b bs w) (hlen : bs.length + 1 ≤ 140737488355328) (hBw : B ≤ w.heap.size) :
    Calls Tryd.prog 61 #[.pointer (some ⟨b, 0, none⟩), .int .u8 c] w fun e w' => e = .returned .nilIface ∧ (Lib.BuilderAtF 61 5 B b (.pointer (some ⟨b, 0, none⟩)) (bs ++ [.int .u8 c]) w' ∧ Below B w w' ∧ Lib.OthersKept 5 (some b) w w') :=
  Any.Builder_WriteByte_k Tryd.lays167 Tryd.Builder_Extra_167 B b bs c w h hlen hBw
theorem sbString (B b : Nat) (l : List UInt8) (w : World) (h : Lib.IsBuilderF 61 5 B b (Lib.byteCells l) w) (hBw : B ≤ w.heap.size) :
    Calls Tryd.prog 27 #[.pointer (some ⟨b, 0, none⟩)] w fun e w' => e = .returned (.string ⟨l.toArray⟩) ∧ (Lib.IsBuilderF 61 5 B b (Lib.byteCells l) w' ∧ Below B w w' ∧ Lib.OthersKept 5 (some b) w w') :=
  Any.Builder_String_any_k Tryd.lays169 Tryd.Builder_Extra_169 B b l w h hBw
theorem sbRune (B b : Nat) (bs : List Value) (r : Int) (hr0 : -2147483648 ≤ r) (hr1 : r ≤ 2147483647) (w : World) (h : Lib.IsBuilderF 61 5 B b bs w) (hlen : bs.length + 4 ≤ 140737488355328) (hBw : B ≤ w.heap.size) :
    Calls Tryd.prog 85 #[.pointer (some ⟨b, 0, none⟩), .int .i32 r] w fun e w' => e = .returned (.tuple #[.int .i64 (Lib.runeCells r).length, .nilIface]) ∧ (Lib.BuilderAtF 61 5 B b (.pointer (some ⟨b, 0, none⟩)) (bs ++ Lib.runeCells r) w' ∧ Below B w w' ∧ Lib.OthersKept 5 (some b) w w') :=
  Any.Builder_WriteRune_k Tryd.lays168 Tryd.Builder_Extra_168 B b bs r hr0 hr1 w h hlen hBw
theorem sbWrite (B b : Nat) (bs : List Value) (s : ByteArray) (w : World) (h : Lib.IsBuilderF 61 5 B b bs w) (hlen : bs.length + s.size ≤ 140737488355328) (hBw : B ≤ w.heap.size) :
    Calls Tryd.prog 44 #[.pointer (some ⟨b, 0, none⟩), .string s] w fun e w' => e = .returned (.tuple #[.int .i64 s.size, .nilIface]) ∧ (Lib.BuilderAtF 61 5 B b (.pointer (some ⟨b, 0, none⟩)) (bs ++ Lib.strCells s) w' ∧ Below B w w' ∧ Lib.OthersKept 5 (some b) w w') :=
  Any.Builder_WriteString_k Tryd.lays166 Tryd.Builder_Extra_166 B b bs s w h hlen hBw
theorem libValid (s : ByteArray) (w : World) (hs : s.size ≤ 9223372036854775807) (hT : Lib.Utf8Tabs 0 1 w) :
    Calls Tryd.prog 59 #[.string s] w fun e w' => e = .returned (.bool (Lib.validD s.data.toList)) ∧ Below w.heap.size w w' := Any.utf8_ValidString Tryd.lays196 s w hs hT
theorem libDecode (s : ByteArray) (w : World) (hT : Lib.Utf8Tabs 0 1 w) :
    Calls Tryd.prog 91 #[.string s] w fun e w' => e = .returned (.tuple #[.int .i32 (Lib.decodeGo s).1, .int .i64 (Lib.decodeGo s).2]) ∧ Below w.heap.size w w' := Any.utf8_DecodeRuneInString Tryd.lays197 s w hT
theorem libCutPrefix (s p : ByteArray) (w : World) :
    Calls Tryd.prog 67 #[.string s, .string p] w fun e w' => e = .returned (.tuple #[.string ⟨(Lib.trimPrefix s.data.toList p.data.toList).toArray⟩, .bool (Lib.hasPrefix s.data.toList p.data.toList)]) ∧ w' = w := Any.strings_CutPrefix Tryd.lays103 s p w
end Go.Proofs.YtchgelfomnbpaaaDoor
namespace Go.Proofs.YtchgelfomnbpaaaDoor
open Go.RowKit
open Go.Lib

theorem drop_extract (s : ByteArray) (k : Nat) : (s.extract k s.size).data.toList = s.data.toList.drop k := by
  simp [ByteArray.data_extract]
  rw [List.take_of_length_le (by rw [List.length_drop]; simp)]
theorem dec_extract (s : ByteArray) (k : Nat) : Utf8.decode (s.extract k s.size) 0 = decodeL (s.data.toList.drop k) := by
  rw [← drop_extract]; rfl

set_option maxRecDepth 100000 in
set_option maxHeartbeats 1000000 in
theorem rpoints_any (s : ByteArray) (w : World) (hs : s.size ≤ 2000000) : Calls Tryd.prog 48 #[.string s] w (OutI w (raws s.data.toList)) := by
  obtain ⟨i0, hi, hz0, hz1, hz2⟩ := info_parts Tryd.info3
  go_enter Tryd.func48, Tryd.ntmps48
  go_wp2
  go_loopw [3, 4] (fun v i wr => ∃ (k : Nat) (zs : List Int), k ≤ s.size ∧ i = .int .i64 k ∧ wr.ownsRow w.heap.size 3 1 v zs.length (zs.map (Value.int .i64)) ∧ Below w.heap.size w wr ∧ zs.length ≤ k ∧ Hid (zs ++ raws (s.data.toList.drop k) = raws s.data.toList))
    (fun _ i _ => s.size - (RowKit.intOf i).toNat)
  case atStart => exact ⟨0, [], Nat.zero_le _, rfl, World.ownsRow_nil _ _ _ _, Below.refl _ _, by simp, by simp [Hid]⟩
  case round =>
    obtain ⟨k, zs, hk, rfl, hown, hbw, hzl, hzs⟩ := hrel
    have hbsz := hbw.size
    by_cases hlt : k < s.size
    · have hne : s.data.toList.drop k ≠ [] := by
        intro h
        have := congrArg List.length h
        simp at this
        omega
      have hwd := decodeL_width (s.data.toList.drop k)
      have hle := decodeL_le (s.data.toList.drop k) hne
      have hstep := raws_cons (s.data.toList.drop k) hne
      have hrd := read_any (s.extract k s.size) wr (by simp; omega) (by simp; omega)
      rw [dec_extract] at hrd
      unfold ReadOut at hrd
      rw [List.drop_drop] at hstep
      rw [List.length_drop] at hle
      generalize decodeL (s.data.toList.drop k) = d at *
      obtain ⟨p, n⟩ := d
      generalize hP : raw1 (p, n) = P at *
      have H2 := Lib.hid (show (zs ++ [P]) ++ raws (s.data.toList.drop (k + n)) = raws s.data.toList by rw [← hzs.out, hstep]; simp)
      clear hP hstep hne
      simp only at hwd hle
      have hle2 : k + n ≤ s.size := by simp at hle; omega
      clear hle
      go_wp2_with fail
      refine hrd.mono ?_
      clear hrd
      rintro e w1 ⟨rfl, rfl⟩
      simp only
      go_wp2_with (at_builtin; refine wpList_append_own _ rfl _ _ 83 rfl w.heap.size 3 i0 (.int .i64 0) 1 8 Tryd.underlying83 hi hz0 hz1 hz2 rfl (by decide) _ _ _ rfl (hown.alloc _) ⟨wr.heap.size, 0, none⟩ 1 1 [.int .i64 P] rfl rfl (c1_one _ _ _ _) (c2_one _ _) (by unfold maxLen; omega) (by omega) (by simp; omega) ?_)
      intro v' w2 hown' hgrow _
      have R := own_more (Nat.le_refl _) hown hbw hbw.size hown' hgrow
      clear hown' hgrow hown hbw
      go_wp2
      go_roundw
      case rel => exact ⟨k + n, zs ++ [P], hle2, by go_num, R.1, R.2, by simp; omega, H2⟩
      case measure => simp [RowKit.intOf]; omega
    · go_wp2
      go_ret
      have he : k = s.size := by omega
      subst he
      have hq := hzs.out
      rw [List.drop_of_length_le (by simp)] at hq
      simp only [show raws [] = [] from rfl, List.append_nil] at hq
      rw [← hq]
      exact OutI.of_own hown hbw
end Go.Proofs.YtchgelfomnbpaaaDoor
namespace Go.Proofs.YtchgelfomnbpaaaDoor
open Go.RowKit
open Go.Lib

theorem uvalid_any (s : ByteArray) (w : World) (hs : s.size ≤ 2000000) (hT : Lib.Utf8Tabs 0 1 w) :
    Calls Tryd.prog 41 #[.string s] w fun e w' => e = .returned (.bool (validD s.data.toList)) ∧ Below w.heap.size w w' := by
  have hc := libValid s w (by omega) hT
  have HT := Lib.hid hT
  clear hT
  go_enter Tryd.func41, Tryd.ntmps41
  go_wp2_with fail
  refine hc.mono ?_
  clear hc
  rintro e w1 ⟨rfl, hb⟩
  go_wp2
  go_ret
  exact ⟨rfl, hb⟩
end Go.Proofs.YtchgelfomnbpaaaDoor
namespace Go.Proofs.YtchgelfomnbpaaaDoor
open Go.RowKit
open Go.Lib


set_option maxRecDepth 100000 in
theorem rvalid_any (s : ByteArray) (w : World) (hs : s.size ≤ 2000000) : Calls Tryd.prog 29 #[.string s] w fun e w' => e = .returned (.bool (validD s.data.toList)) ∧ Below w.heap.size w w' := by
  have hV := Lib.hid (raws_valid _ s.data.toList (Nat.le_refl _))
  have hL := pts_length_le s.data.toList
  rw [← raws_length] at hL
  have hL : (raws s.data.toList).length ≤ 2000000 := by simp at hL; omega
  have hc := rpoints_any s w hs
  generalize raws s.data.toList = zs at *
  go_enter Tryd.func29, Tryd.ntmps29
  go_wp2_with fail
  refine hc.mono ?_
  clear hc
  rintro e w1 ⟨A, c, rfl, hcap, hR, hbw⟩
  go_wp2
  go_loop [8] (fun i => ∃ k : Nat, k ≤ zs.length ∧ i = .int .i64 k ∧ Hid ((zs.take k).all (fun p => decide (0 ≤ p)) = true)) (fun i => zs.length - (RowKit.intOf i).toNat)
  case atStart => exact ⟨0, Nat.zero_le _, rfl, by simp [Hid]⟩
  case round =>
    obtain ⟨k, hk, rfl, hall⟩ := hrel
    by_cases hlt : k < zs.length
    · obtain ⟨b, off, rfl, hblt, hcell⟩ := hR (by omega)
      have hx := hcell k hlt
      have HT := Lib.hid (List.take_succ_eq_append_getElem hlt)
      have HX : zs.getD k 0 = zs[k] := by simp [List.getD, List.getElem?_eq_getElem hlt]
      rw [HX] at hx
      have hmem : zs[k] ∈ zs := List.getElem_mem hlt
      generalize zs[k] = z at *
      clear hcell HX
      by_cases hz : z < 0
      · have HF := Lib.hid (show zs.all (fun p => decide (0 ≤ p)) = false by
          rw [Bool.eq_false_iff]; intro h; have := List.all_eq_true.1 h z hmem; simp at this; omega)
        clear hmem
        go_wp2
        go_ret
        exact ⟨ret_bool (by rw [hV.out, HF.out]), hbw⟩
      · have hz0 : 0 ≤ z := by omega
        clear hmem
        go_wp2
        go_round
        case rel => exact ⟨k + 1, by omega, by go_num, by show _ = true; rw [HT.out, List.all_append, hall.out]; simp [hz0]⟩
        case measure => simp [RowKit.intOf]; omega
    · have HF := Lib.hid (show zs.all (fun p => decide (0 ≤ p)) = true by
        have := hall.out; rwa [List.take_of_length_le (by omega)] at this)
      go_wp2
      go_ret
      exact ⟨ret_bool (by rw [hV.out, HF.out]), hbw⟩

set_option maxRecDepth 100000 in
set_option maxHeartbeats 1000000 in
theorem rfixed_any (s : ByteArray) (w : World) (hs : s.size ≤ 2000000) : Calls Tryd.prog 49 #[.string s] w (OutI w (pts s.data.toList)) := by
  obtain ⟨i0, hi, hz0, hz1, hz2⟩ := info_parts Tryd.info3
  have hL := pts_length_le s.data.toList
  rw [← raws_length] at hL
  have hL : (raws s.data.toList).length ≤ 2000000 := by simp at hL; omega
  have hc := rpoints_any s w hs
  rw [← map_fix_raws]
  generalize raws s.data.toList = zs at *
  go_enter Tryd.func49, Tryd.ntmps49
  go_wp2_with fail
  refine hc.mono ?_
  clear hc
  rintro e w1 ⟨A, c, rfl, hcap, hR, hbw1⟩
  go_wp2
  go_loopw [3, 9] (fun v i wr => ∃ (k : Nat) (ys : List Int), k ≤ zs.length ∧ i = .int .i64 k ∧ wr.ownsRow w1.heap.size 3 1 v ys.length (ys.map (Value.int .i64)) ∧ Below w1.heap.size w1 wr ∧ ys.length ≤ k ∧ Hid (ys = (zs.take k).map fix)) (fun _ i _ => zs.length - (RowKit.intOf i).toNat)
  case atStart => exact ⟨0, [], Nat.zero_le _, rfl, World.ownsRow_nil _ _ _ _, Below.refl _ _, by simp, by simp [Hid]⟩
  case round =>
    obtain ⟨k, ys, hk, rfl, hown, hbw, hyl, hys⟩ := hrel
    have hbsz := hbw.size
    by_cases hlt : k < zs.length
    · obtain ⟨b, off, rfl, hblt, hcell⟩ := hR (by omega)
      have hx := (hbw.cell (p := ⟨b, off + k, none⟩) (by exact hblt)).trans (hcell k hlt)
      have HT := Lib.hid (List.take_succ_eq_append_getElem hlt)
      have HX : zs.getD k 0 = zs[k] := by simp [List.getD, List.getElem?_eq_getElem hlt]
      rw [HX] at hx
      generalize zs[k] = z at *
      clear hcell HX
      have hF := Lib.hid (show (ys ++ [fix z]) = (zs.take (k + 1)).map fix by rw [HT.out, hys.out]; simp)
      have hfz := Lib.hid (show fix z = if z < 0 then 65533 else z from rfl)
      by_cases hz : z < 0
      · have hzz := Lib.hid (show fix z = 65533 by rw [hfz.out, if_pos hz])
        go_wp2_with (at_builtin; refine wpList_append_own _ rfl _ _ 83 rfl w1.heap.size 3 i0 (.int .i64 0) 1 8 Tryd.underlying83 hi hz0 hz1 hz2 rfl (by decide) _ _ _ rfl (hown.alloc _) ⟨wr.heap.size, 0, none⟩ 1 1 [.int .i64 65533] rfl rfl (c1_one _ _ _ _) (c2_one _ _) (by unfold maxLen; omega) (by omega) (by simp; omega) ?_)
        intro v' w2 hown' hgrow _
        have R := own_more (Nat.le_refl _) hown hbw hbw.size hown' hgrow
        clear hown' hgrow hown hbw
        go_wp2
        go_roundw
        case rel => exact ⟨k + 1, ys ++ [65533], by omega, by go_num, R.1, R.2, by simp; omega, by rw [← hF.out, hzz.out]; rfl⟩
        case measure => simp [RowKit.intOf]; omega
      · have hz0' : 0 ≤ z := by omega
        have hzz := Lib.hid (show fix z = z by rw [hfz.out, if_neg hz])
        go_wp2_with (at_builtin; refine wpList_append_own _ rfl _ _ 83 rfl w1.heap.size 3 i0 (.int .i64 0) 1 8 Tryd.underlying83 hi hz0 hz1 hz2 rfl (by decide) _ _ _ rfl (hown.alloc _) ⟨wr.heap.size, 0, none⟩ 1 1 [.int .i64 z] rfl rfl (c1_one _ _ _ _) (c2_one _ _) (by unfold maxLen; omega) (by omega) (by simp; omega) ?_)
        intro v' w2 hown' hgrow _
        have R := own_more (Nat.le_refl _) hown hbw hbw.size hown' hgrow
        clear hown' hgrow hown hbw
        go_wp2
        go_roundw
        case rel => exact ⟨k + 1, ys ++ [z], by omega, by go_num, R.1, R.2, by simp; omega, by rw [← hF.out, hzz.out]; rfl⟩
        case measure => simp [RowKit.intOf]; omega
    · go_wp2
      go_ret
      have hq := hys.out
      rw [List.take_of_length_le (by omega)] at hq
      rw [← hq]
      exact OutI.of_own hown (hbw1.trans (hbw.mono hbw1.size))
end Go.Proofs.YtchgelfomnbpaaaDoor
