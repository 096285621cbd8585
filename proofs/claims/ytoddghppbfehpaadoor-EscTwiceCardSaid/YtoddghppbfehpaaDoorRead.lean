/-
  The walk of the document's reader of one code point. Conditions: the bytes are not empty.
-/
import Derived.Test.YtoddghppbfehpaaDoorReadP
namespace Go.Proofs.YtoddghppbfehpaaDoor
open Go.RowKit Go.Lib

theorem get_at {t : ByteArray} {k : Nat} {x : UInt8} (hk : k < t.size) (h : t[k] = x) : x.toNat = at_ t k := by
  subst h
  unfold at_
  cases t with
  | mk d => exact congrArg UInt8.toNat (getElem!_pos d k hk).symm
theorem read_low (t : ByteArray) (b0 : UInt8) (w : World) (h0 : 0 < t.size) (hb : t[0] = b0) (hlt : (b0.toNat : Int) < 128) :
    Calls Tryd.prog 46 #[.string t] w (ReadOut (Utf8.decode t 0) w) := by
  have H := Lib.hid (plain_low t (by rw [← get_at h0 hb]; omega))
  have G := Lib.hid (get_at h0 hb)
  go_enter Tryd.func46, Tryd.ntmps46
  go_wp2
  go_ret2
  exact ReadOut.good _ 1 (by rw [H.out, ← G.out]; simp) (by omega) rfl (by omega)
set_option maxRecDepth 100000 in
theorem read_none (t : ByteArray) (b0 : UInt8) (w : World) (h0 : 0 < t.size) (hb : t[0] = b0) (h1 : 128 ≤ (b0.toNat : Int)) (h2 : (b0.toNat : Int) < 194) :
    Calls Tryd.prog 46 #[.string t] w (ReadOut (Utf8.decode t 0) w) := by
  have H := Lib.hid (plain_none t (by rw [← get_at h0 hb]; omega) (by rw [← get_at h0 hb]; omega))
  go_enter Tryd.func46, Tryd.ntmps46
  go_wp2
  go_ret2
  exact ReadOut.bad _ H.out
set_option maxRecDepth 100000 in
theorem read_over (t : ByteArray) (b0 : UInt8) (w : World) (h0 : 0 < t.size) (hb : t[0] = b0) (h1 : 245 ≤ (b0.toNat : Int)) (h2 : (b0.toNat : Int) < 256) :
    Calls Tryd.prog 46 #[.string t] w (ReadOut (Utf8.decode t 0) w) := by
  have H := Lib.hid (plain_none t (by rw [← get_at h0 hb]; omega) (by rw [← get_at h0 hb]; omega))
  go_enter Tryd.func46, Tryd.ntmps46
  go_wp2
  go_ret2
  exact ReadOut.bad _ H.out

set_option maxRecDepth 100000 in
theorem read_short2 (t : ByteArray) (b0 : UInt8) (w : World) (h0 : 0 < t.size) (hb : t[0] = b0) (h1 : 194 ≤ (b0.toNat : Int)) (h2 : (b0.toNat : Int) < 224) (hs : (t.size : Int) < 2) :
    Calls Tryd.prog 46 #[.string t] w (ReadOut (Utf8.decode t 0) w) := by
  have H := Lib.hid (plain_short2 t (by rw [← get_at h0 hb]; omega) (by rw [← get_at h0 hb]; omega) (by omega))
  go_enter Tryd.func46, Tryd.ntmps46
  go_wp2
  go_ret2
  exact ReadOut.bad _ H.out
set_option maxRecDepth 100000 in
set_option maxHeartbeats 1000000 in
theorem read_long2 (t : ByteArray) (b0 : UInt8) (w : World) (h0 : 0 < t.size) (hb : t[0] = b0) (h1 : 194 ≤ (b0.toNat : Int)) (h2 : (b0.toNat : Int) < 224) (hs : 2 ≤ (t.size : Int)) (hm : (t.size : Int) ≤ 9223372036854775807) :
    Calls Tryd.prog 46 #[.string t] w (ReadOut (Utf8.decode t 0) w) := by
  have G := Lib.hid (get_at h0 hb)
  have g1 : 194 ≤ at_ t 0 := by rw [← get_at h0 hb]; omega
  have g2 : at_ t 0 < 224 := by rw [← get_at h0 hb]; omega
  go_enter Tryd.func46, Tryd.ntmps46
  go_wp2
  go_loop [4, 7] (fun b i => ∃ k : Nat, 1 ≤ k ∧ k ≤ 2 ∧ i = .int .i64 k ∧ Hid (ContN t k) ∧ b = .int .i64 (accN ((b0.toNat : Int) - 192) t k)) (fun _ i => 2 - (intOf i).toNat)
  case atStart => exact ⟨1, Nat.le_refl _, by omega, rfl, (fun j a b => by omega), rfl⟩
  case round =>
    obtain ⟨k, hk1, hk2, rfl, hC, rfl⟩ := hrel
    have hbd := acc_bound ((b0.toNat : Int) - 192) t (by omega) (by omega) k (by omega) hC.out
    obtain ⟨A, HA⟩ : ∃ A, accN ((b0.toNat : Int) - 192) t k = A := ⟨_, rfl⟩
    rw [HA] at hbd ⊢
    obtain ⟨hA0, hA1⟩ := hbd
    have HA := Lib.hid HA
    by_cases hlt : k < 2
    · have hkt : k < t.size := by omega
      obtain ⟨x, hx⟩ : ∃ x, t[k] = x := ⟨_, rfl⟩
      have hx256 : (x.toNat : Int) < 256 := by have := UInt8.toNat_lt x; omega
      have GX := Lib.hid (get_at hkt hx)
      by_cases hok : 128 ≤ (x.toNat : Int) ∧ (x.toNat : Int) < 192
      · obtain ⟨o1, o2⟩ := hok
        go_wp2
        go_round
        case rel =>
          refine ⟨k + 1, by omega, by omega, by go_num, cont_more hC.out (by have := GX.out; omega) (by have := GX.out; omega), ?_⟩
          rw [acc_more _ _ _ hk1, HA.out, ← GX.out]
        case measure => simp [intOf]; omega
      · have H := Lib.hid (plain_bad2 t k g1 g2 hk1 hlt (by rw [← get_at hkt hx]; omega))
        by_cases o1 : (x.toNat : Int) < 128
        · go_wp2
          go_ret2
          exact ReadOut.bad _ H.out
        · have o2 : 192 ≤ (x.toNat : Int) := by omega
          clear hok
          go_wp2
          go_ret2
          exact ReadOut.bad _ H.out
    · have ek : k = 2 := by omega
      subst ek
      have E := Lib.hid (plain_end2 t g1 g2 (by omega) hC.out)
      rw [← G.out] at E
      have E := Lib.hid (show Utf8.decode t 0 = if A < 128 ∨ isPt A = false then (65533, 1) else (A.toNat, 2) by rw [← HA.out]; exact E.out)
      by_cases q1 : A < 128
      · go_wp2_with (go_at_call 40; refine (is_any _ _).mono ?_; rintro e w' ⟨rfl, rfl⟩)
        go_ret2
        exact ReadOut.bad _ (by rw [E.out, if_pos (.inl q1)])
      · cases q2 : isPt A with
        | false =>
          go_wp2_with (go_at_call 40; refine (is_any _ _).mono ?_; rintro e w' ⟨rfl, rfl⟩)
          go_ret2
          exact ReadOut.bad _ (by rw [E.out, if_pos (.inr q2)])
        | true =>
          go_wp2_with (go_at_call 40; refine (is_any _ _).mono ?_; rintro e w' ⟨rfl, rfl⟩)
          go_ret2
          exact ReadOut.good _ 2 (by rw [E.out, if_neg (by rw [q2]; simp; omega)]) (by omega) rfl (by omega)

set_option maxRecDepth 100000 in
theorem read_short3 (t : ByteArray) (b0 : UInt8) (w : World) (h0 : 0 < t.size) (hb : t[0] = b0) (h1 : 224 ≤ (b0.toNat : Int)) (h2 : (b0.toNat : Int) < 240) (hs : (t.size : Int) < 3) :
    Calls Tryd.prog 46 #[.string t] w (ReadOut (Utf8.decode t 0) w) := by
  have H := Lib.hid (plain_short3 t (by rw [← get_at h0 hb]; omega) (by rw [← get_at h0 hb]; omega) (by omega))
  go_enter Tryd.func46, Tryd.ntmps46
  go_wp2
  go_ret2
  exact ReadOut.bad _ H.out
set_option maxRecDepth 100000 in
set_option maxHeartbeats 1000000 in
theorem read_long3 (t : ByteArray) (b0 : UInt8) (w : World) (h0 : 0 < t.size) (hb : t[0] = b0) (h1 : 224 ≤ (b0.toNat : Int)) (h2 : (b0.toNat : Int) < 240) (hs : 3 ≤ (t.size : Int)) (hm : (t.size : Int) ≤ 9223372036854775807) :
    Calls Tryd.prog 46 #[.string t] w (ReadOut (Utf8.decode t 0) w) := by
  have G := Lib.hid (get_at h0 hb)
  have g1 : 224 ≤ at_ t 0 := by rw [← get_at h0 hb]; omega
  have g2 : at_ t 0 < 240 := by rw [← get_at h0 hb]; omega
  go_enter Tryd.func46, Tryd.ntmps46
  go_wp2
  go_loop [4, 7] (fun b i => ∃ k : Nat, 1 ≤ k ∧ k ≤ 3 ∧ i = .int .i64 k ∧ Hid (ContN t k) ∧ b = .int .i64 (accN ((b0.toNat : Int) - 224) t k)) (fun _ i => 3 - (intOf i).toNat)
  case atStart => exact ⟨1, Nat.le_refl _, by omega, rfl, (fun j a b => by omega), rfl⟩
  case round =>
    obtain ⟨k, hk1, hk2, rfl, hC, rfl⟩ := hrel
    have hbd := acc_bound ((b0.toNat : Int) - 224) t (by omega) (by omega) k (by omega) hC.out
    obtain ⟨A, HA⟩ : ∃ A, accN ((b0.toNat : Int) - 224) t k = A := ⟨_, rfl⟩
    rw [HA] at hbd ⊢
    obtain ⟨hA0, hA1⟩ := hbd
    have HA := Lib.hid HA
    by_cases hlt : k < 3
    · have hkt : k < t.size := by omega
      obtain ⟨x, hx⟩ : ∃ x, t[k] = x := ⟨_, rfl⟩
      have hx256 : (x.toNat : Int) < 256 := by have := UInt8.toNat_lt x; omega
      have GX := Lib.hid (get_at hkt hx)
      by_cases hok : 128 ≤ (x.toNat : Int) ∧ (x.toNat : Int) < 192
      · obtain ⟨o1, o2⟩ := hok
        go_wp2
        go_round
        case rel =>
          refine ⟨k + 1, by omega, by omega, by go_num, cont_more hC.out (by have := GX.out; omega) (by have := GX.out; omega), ?_⟩
          rw [acc_more _ _ _ hk1, HA.out, ← GX.out]
        case measure => simp [intOf]; omega
      · have H := Lib.hid (plain_bad3 t k g1 g2 hk1 hlt (by rw [← get_at hkt hx]; omega))
        by_cases o1 : (x.toNat : Int) < 128
        · go_wp2
          go_ret2
          exact ReadOut.bad _ H.out
        · have o2 : 192 ≤ (x.toNat : Int) := by omega
          clear hok
          go_wp2
          go_ret2
          exact ReadOut.bad _ H.out
    · have ek : k = 3 := by omega
      subst ek
      have E := Lib.hid (plain_end3 t g1 g2 (by omega) hC.out)
      rw [← G.out] at E
      have E := Lib.hid (show Utf8.decode t 0 = if A < 2048 ∨ isPt A = false then (65533, 1) else (A.toNat, 3) by rw [← HA.out]; exact E.out)
      by_cases q1 : A < 2048
      · go_wp2_with (go_at_call 40; refine (is_any _ _).mono ?_; rintro e w' ⟨rfl, rfl⟩)
        go_ret2
        exact ReadOut.bad _ (by rw [E.out, if_pos (.inl q1)])
      · cases q2 : isPt A with
        | false =>
          go_wp2_with (go_at_call 40; refine (is_any _ _).mono ?_; rintro e w' ⟨rfl, rfl⟩)
          go_ret2
          exact ReadOut.bad _ (by rw [E.out, if_pos (.inr q2)])
        | true =>
          go_wp2_with (go_at_call 40; refine (is_any _ _).mono ?_; rintro e w' ⟨rfl, rfl⟩)
          go_ret2
          exact ReadOut.good _ 3 (by rw [E.out, if_neg (by rw [q2]; simp; omega)]) (by omega) rfl (by omega)

set_option maxRecDepth 100000 in
theorem read_short4 (t : ByteArray) (b0 : UInt8) (w : World) (h0 : 0 < t.size) (hb : t[0] = b0) (h1 : 240 ≤ (b0.toNat : Int)) (h2 : (b0.toNat : Int) < 245) (hs : (t.size : Int) < 4) :
    Calls Tryd.prog 46 #[.string t] w (ReadOut (Utf8.decode t 0) w) := by
  have H := Lib.hid (plain_short4 t (by rw [← get_at h0 hb]; omega) (by rw [← get_at h0 hb]; omega) (by omega))
  go_enter Tryd.func46, Tryd.ntmps46
  go_wp2
  go_ret2
  exact ReadOut.bad _ H.out
set_option maxRecDepth 100000 in
set_option maxHeartbeats 1000000 in
theorem read_long4 (t : ByteArray) (b0 : UInt8) (w : World) (h0 : 0 < t.size) (hb : t[0] = b0) (h1 : 240 ≤ (b0.toNat : Int)) (h2 : (b0.toNat : Int) < 245) (hs : 4 ≤ (t.size : Int)) (hm : (t.size : Int) ≤ 9223372036854775807) :
    Calls Tryd.prog 46 #[.string t] w (ReadOut (Utf8.decode t 0) w) := by
  have G := Lib.hid (get_at h0 hb)
  have g1 : 240 ≤ at_ t 0 := by rw [← get_at h0 hb]; omega
  have g2 : at_ t 0 < 245 := by rw [← get_at h0 hb]; omega
  go_enter Tryd.func46, Tryd.ntmps46
  go_wp2
  go_loop [4, 7] (fun b i => ∃ k : Nat, 1 ≤ k ∧ k ≤ 4 ∧ i = .int .i64 k ∧ Hid (ContN t k) ∧ b = .int .i64 (accN ((b0.toNat : Int) - 240) t k)) (fun _ i => 4 - (intOf i).toNat)
  case atStart => exact ⟨1, Nat.le_refl _, by omega, rfl, (fun j a b => by omega), rfl⟩
  case round =>
    obtain ⟨k, hk1, hk2, rfl, hC, rfl⟩ := hrel
    have hbd := acc_bound ((b0.toNat : Int) - 240) t (by omega) (by omega) k (by omega) hC.out
    obtain ⟨A, HA⟩ : ∃ A, accN ((b0.toNat : Int) - 240) t k = A := ⟨_, rfl⟩
    rw [HA] at hbd ⊢
    obtain ⟨hA0, hA1⟩ := hbd
    have HA := Lib.hid HA
    by_cases hlt : k < 4
    · have hkt : k < t.size := by omega
      obtain ⟨x, hx⟩ : ∃ x, t[k] = x := ⟨_, rfl⟩
      have hx256 : (x.toNat : Int) < 256 := by have := UInt8.toNat_lt x; omega
      have GX := Lib.hid (get_at hkt hx)
      by_cases hok : 128 ≤ (x.toNat : Int) ∧ (x.toNat : Int) < 192
      · obtain ⟨o1, o2⟩ := hok
        go_wp2
        go_round
        case rel =>
          refine ⟨k + 1, by omega, by omega, by go_num, cont_more hC.out (by have := GX.out; omega) (by have := GX.out; omega), ?_⟩
          rw [acc_more _ _ _ hk1, HA.out, ← GX.out]
        case measure => simp [intOf]; omega
      · have H := Lib.hid (plain_bad4 t k g1 g2 hk1 hlt (by rw [← get_at hkt hx]; omega))
        by_cases o1 : (x.toNat : Int) < 128
        · go_wp2
          go_ret2
          exact ReadOut.bad _ H.out
        · have o2 : 192 ≤ (x.toNat : Int) := by omega
          clear hok
          go_wp2
          go_ret2
          exact ReadOut.bad _ H.out
    · have ek : k = 4 := by omega
      subst ek
      have E := Lib.hid (plain_end4 t g1 g2 (by omega) hC.out)
      rw [← G.out] at E
      have E := Lib.hid (show Utf8.decode t 0 = if A < 65536 ∨ isPt A = false then (65533, 1) else (A.toNat, 4) by rw [← HA.out]; exact E.out)
      by_cases q1 : A < 65536
      · go_wp2_with (go_at_call 40; refine (is_any _ _).mono ?_; rintro e w' ⟨rfl, rfl⟩)
        go_ret2
        exact ReadOut.bad _ (by rw [E.out, if_pos (.inl q1)])
      · cases q2 : isPt A with
        | false =>
          go_wp2_with (go_at_call 40; refine (is_any _ _).mono ?_; rintro e w' ⟨rfl, rfl⟩)
          go_ret2
          exact ReadOut.bad _ (by rw [E.out, if_pos (.inr q2)])
        | true =>
          go_wp2_with (go_at_call 40; refine (is_any _ _).mono ?_; rintro e w' ⟨rfl, rfl⟩)
          go_ret2
          exact ReadOut.good _ 4 (by rw [E.out, if_neg (by rw [q2]; simp; omega)]) (by omega) rfl (by omega)

theorem read_any (t : ByteArray) (w : World) (h0 : 0 < t.size) (hm : t.size ≤ 9223372036854775807) : Calls Tryd.prog 46 #[.string t] w (ReadOut (Utf8.decode t 0) w) := by
  obtain ⟨b0, hb⟩ : ∃ b0, t[0] = b0 := ⟨_, rfl⟩
  have hz := UInt8.toNat_lt b0
  by_cases c1 : b0.toNat < 128
  · exact read_low t b0 w h0 hb (by omega)
  by_cases c2 : b0.toNat < 194
  · exact read_none t b0 w h0 hb (by omega) (by omega)
  by_cases c3 : 245 ≤ b0.toNat
  · exact read_over t b0 w h0 hb (by omega) (by omega)
  by_cases c4 : b0.toNat < 224
  · by_cases s : t.size < 2
    · exact read_short2 t b0 w h0 hb (by omega) (by omega) (by omega)
    · exact read_long2 t b0 w h0 hb (by omega) (by omega) (by omega) (by omega)
  by_cases c5 : b0.toNat < 240
  · by_cases s : t.size < 3
    · exact read_short3 t b0 w h0 hb (by omega) (by omega) (by omega)
    · exact read_long3 t b0 w h0 hb (by omega) (by omega) (by omega) (by omega)
  · by_cases s : t.size < 4
    · exact read_short4 t b0 w h0 hb (by omega) (by omega) (by omega)
    · exact read_long4 t b0 w h0 hb (by omega) (by omega) (by omega) (by omega)
end Go.Proofs.YtoddghppbfehpaaDoor
