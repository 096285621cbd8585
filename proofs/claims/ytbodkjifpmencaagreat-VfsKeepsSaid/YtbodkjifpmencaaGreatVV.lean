/-
  The walk of a crash's next number. Conditions: numbers of an int's range.
-/
import Derived.Test.YtbodkjifpmencaaGreatVU
namespace Go.Proofs.YtbodkjifpmencaaGreat
open Go.RowKit
open Go.Lib

/-- A slice that reads as ints. -/
def RI (w : World) (A : Option Addr) (ks : List Int) : Prop :=
  0 < ks.length → ∃ b off, A = some ⟨b, off, none⟩ ∧ b < w.heap.size ∧ ∀ j (h : j < ks.length), w.cell? ⟨b, off + j, none⟩ = some (.int .i64 ks[j])
theorem RI.off {F : Nat → Prop} {w w' : World} {A : Option Addr} {ks : List Int} (h : RI w A ks) (ho : Off F w w') (hF : 0 < ks.length → ∀ b, aBlock A = some b → ¬ F b) : RI w' A ks := fun hz => by
  obtain ⟨b, off, rfl, hb, hc⟩ := h hz
  have := ho.size
  exact ⟨b, off, rfl, by omega, fun j hj => ho.cell (hc j hj) (hF hz b rfl)⟩
theorem cutZ_block (A : Option Addr) (c l s : Nat) (h : ∀ a, A = some a → a.spot = none) : aBlock (cutZ A c l s) = aBlock A := by
  unfold cutZ
  split
  · rfl
  · cases A with
    | none => rfl
    | some a =>
      obtain ⟨b, o, sp⟩ := a
      have := h _ rfl
      simp at this
      subst this
      show aBlock (some (Addr.add ⟨b, o, none⟩ (l * s))) = _
      rw [Addr.add_mid]; rfl
/-- The numbers that are left, in their box. -/
structure Box (kb : Nat) (ks : List Int) (w : World) (P : Nat → Prop) : Prop where
  ex : ∃ A c, Blk kb (.cells #[.slice A ks.length c] 29 (0, 0)) w ∧ RI w A ks ∧ (0 < ks.length → ∀ x, aBlock A = some x → P x ∧ x ≠ kb) ∧ ks.length ≤ c
theorem Box.off {F : Nat → Prop} {kb : Nat} {ks : List Int} {w w' : World} {P : Nat → Prop} (h : Box kb ks w P) (ho : Off F w w') (h1 : ¬ F kb) (h2 : ∀ x, P x → ¬ F x) : Box kb ks w' P := by
  obtain ⟨A, c, hb, hr, hp, hc⟩ := h.ex
  exact ⟨A, c, ho.blk hb h1, hr.off ho (fun hz b hb => h2 b (hp hz b hb).1), hp, hc⟩
def Range (ks : List Int) : Prop := ∀ z ∈ ks, -9223372036854775808 ≤ z ∧ z ≤ 9223372036854775807
set_option maxRecDepth 100000 in
theorem next_any (kb : Nat) (ks : List Int) (w : World) (P : Nat → Prop) (hB : Box kb ks w P) (hR : Range ks) (most : Nat) (hm : most ≤ 1048576) (hl : ks.length ≤ 1048576) :
    Calls Tryz.prog 50 #[.int .i64 (most : Int), .pointer (some ⟨kb, 0, none⟩)] w fun e w' => e = .returned (.int .i64 ((nextQ ks most).1 : Int)) ∧ Box kb (nextQ ks most).2 w' P ∧ Off (fun b => b = kb) w w' := by
  obtain ⟨A, c, hb, hr, hp, hc⟩ := hB.ex
  have c0 : w.cell? ⟨kb, 0, none⟩ = some (.slice A ks.length c) := hb.cell 0
  cases ks with
  | nil =>
    have HB := Lib.hid hB
    have c0' : w.cell? ⟨kb, 0, none⟩ = some (.slice A 0 c) := c0
    clear hB hb hr hp hc c0
    go_enter Tryz.func50, Tryz.ntmps50
    go_wp2
    go_ret
    exact ⟨rfl, HB.out, Off.refl _ _⟩
  | cons z r =>
    obtain ⟨b, off, rfl, hbl, hcs⟩ := hr (by simp)
    have z0 : w.cell? ⟨b, off, none⟩ = some (.int .i64 z) := hcs 0 (by simp)
    have hzr := hR z (by simp)
    obtain ⟨n, hn⟩ : ∃ n, r.length = n := ⟨_, rfl⟩
    have c0' : w.cell? ⟨kb, 0, none⟩ = some (.slice (some ⟨b, off, none⟩) (n + 1) c) := by rw [← hn]; exact c0
    have f0 : w.frozen? ⟨kb, 0, none⟩ = false := hb.free 0
    have hcn : n + 1 ≤ c := by rw [← hn]; exact hc
    have hsl := cut_ints (some ⟨b, off, none⟩) (n + 1) c 1 (by omega)
    have hrest := fun W => rest_any z ((most : Int) + 1) W (by omega) (by omega) hzr.1 hzr.2
    have HREST := Lib.hid hrest
    have HSL := Lib.hid hsl
    have HBK := Lib.hid hb
    have HPP := Lib.hid hp
    have HCS := Lib.hid hcs
    have HN := Lib.hid hn
    have hne : b ≠ kb := (hp (by simp) b rfl).2
    have hnl : n ≤ 1048576 := by rw [← hn]; simp at hl; omega
    have HE := Lib.hid (Int.emod_nonneg z (show (most : Int) + 1 ≠ 0 by omega))
    clear hB hb hr hp hc c0 hcs hR hrest hzr hsl hn
    have hsl : ∀ U, (Instr.slice 29 (.slice (some ⟨b, off, none⟩) (n + 1) c) (some (.int .i64 1)) none none).run Tryz.prog U = .ok (.slice (cutZ (some ⟨b, off, none⟩) c 1 1) n (c - 1)) U := fun U => HSL.out U
    go_enter Tryz.func50, Tryz.ntmps50
    go_wp2_with (go_at_call 51; (with_reducible refine (HREST.out _).mono ?_); rintro e w1 ⟨rfl, rfl⟩)
    go_ret
    have hnx : nextQ (z :: r) most = ((z % ((most : Int) + 1)).toNat, r) := rfl
    rw [hnx]
    have hg := grown_set w kb 0 (.slice (cutZ (some ⟨b, off, none⟩) c 1 1) n (c - 1))
    refine ⟨ret_int (by have := HE.out; show z % ((most : Int) + 1) = _; omega), ⟨cutZ (some ⟨b, off, none⟩) c 1 1, c - 1, ?_, ?_, ?_, by rw [HN.out]; omega⟩, (Off.of_grown hg).mono (fun x h => (Option.some.inj h).symm)⟩
    · rw [HN.out]
      exact HBK.out.set 0 _
    · intro hpos
      have hcut : cutZ (some ⟨b, off, none⟩) c 1 1 = some ⟨b, off + 1, none⟩ := by
        unfold cutZ
        rw [if_neg (by rw [HN.out] at hpos; omega)]
        show some (Addr.add ⟨b, off, none⟩ 1) = _
        rw [Addr.add_mid]
      have hsz := hg.size
      refine ⟨b, off + 1, hcut, by omega, fun j hj => ?_⟩
      have h := HCS.out (j + 1) (by simpa using hj)
      have h2 : w.cell? ⟨b, off + 1 + j, none⟩ = some (.int .i64 r[j]) := by
        rw [show off + 1 + j = off + (j + 1) by omega]
        simpa using h
      exact (Off.of_grown hg).cell h2 (fun e => hne (Option.some.inj e).symm)
    · intro _ x hx
      rw [cutZ_block _ _ _ _ (fun a ha => by cases ha; rfl)] at hx
      exact HPP.out (by simp) x hx
end Go.Proofs.YtbodkjifpmencaaGreat
