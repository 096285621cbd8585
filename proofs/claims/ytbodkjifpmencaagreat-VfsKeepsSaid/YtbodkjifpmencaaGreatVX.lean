/-
  The library's slices.Sorted over maps.Keys, maps.Clone, slices.Sort at a disk's own types. Conditions: modest sizes.
-/
import Derived.Test.YtbodkjifpmencaaGreatVV
import Derived.Test.YtbodkjifpmencaaGreatSG
namespace Go.Proofs.YtbodkjifpmencaaGreat
open Go.RowKit
open Go.Lib
open Go.Maps Go.Sort Go.Shelf

theorem sortsS (m : Nat) : AnyZ.SortsIn Tryz.prog Tryz.sortedS_ren Fence.wide m :=
  ⟨fun blk off cap ss W hH hblk hsz => callsIn_wide.2 (AnyM.slices_Sort_string Tryz.sortS blk off cap ss W hH hblk hsz),
   fun p cap W => callsIn_wide.2 (AnyM.slices_Sort_string_none Tryz.sortS p cap W)⟩
theorem sortsI (m : Nat) : AnyZI.SortsIn Tryz.prog Tryz.sortedI_ren Fence.wide m :=
  ⟨fun blk off cap ss W hH hblk hsz => callsIn_wide.2 (AnyM.slices_Sort_int Tryz.sortI blk off cap ss W hH hblk hsz),
   fun p cap W => callsIn_wide.2 (AnyM.slices_Sort_int_none Tryz.sortI p cap W)⟩
/-- maps.Keys: a function over the map. -/
theorem keysI_any (mb : Option Nat) (w : World) : Calls Tryz.prog 53 #[.map mb] w fun e w' => e = .returned (.func (.func 72) #[] #[.pointer (some ⟨w.heap.size, 0, none⟩)]) ∧ w' = w.alloc (.cells #[.map mb] 56) :=
  (callsIn_wide (n := 5)).1 (AnyZI.keys_in Tryz.keysI Fence.wide 5 trivial rfl mb w)
theorem keysS_any (mb : Option Nat) (w : World) : Calls Tryz.prog 56 #[.map mb] w fun e w' => e = .returned (.func (.func 74) #[] #[.pointer (some ⟨w.heap.size, 0, none⟩)]) ∧ w' = w.alloc (.cells #[.map mb] 55) :=
  (callsIn_wide (n := 5)).1 (AnyZ.keys_in Tryz.keysS Fence.wide 5 trivial rfl mb w)
set_option maxHeartbeats 1000000 in
theorem sortedI_any (b : Nat) (E : Ents) (w : World) (hM : MapIs Tryz.prog 3 b E w) (hl : E.length ≤ 1048576) :
    Calls Tryz.prog 52 #[.func (.func 72) #[] #[.pointer (some ⟨w.heap.size, 0, none⟩)]] (w.alloc (.cells #[.map (some b)] 56)) fun e w' => ∃ (v : Value) (ss D : List Int), e = .returned v ∧ ss.Perm D ∧ (∃ es : List (Lit × DataW Value), es.Perm (datE E) ∧ D = intKeys (.map es)) ∧
      w'.ownsRow w.heap.size 3 1 v ss.length ((ss.mergeSort (fun x y => decide (x ≤ y))).map encZ) ∧ Below w.heap.size w w' := by
  obtain ⟨_, es, hown, hp⟩ := hM
  have hbl := hown.lt
  have hsz : Maps.size (DataW.map es) = E.length := by rw [Maps.size_eq, hp.length_eq, length_datE]
  have hseq : SeqGives Fence.wide 2 Tryz.prog 72 #[.pointer (some ⟨w.heap.size, 0, none⟩)] encZ (fun ss => ss.Perm (intKeys (DataW.map es))) (Maps.size (DataW.map es)) (w.alloc (.cells #[.map (some b)] 56)) :=
    AnyZI.keys_gives (ρ := Tryz.keysI_ren) { Tryz.keysI with } Fence.wide _ trivial rfl (by omega) w.heap.size b E.length (DataW.map es) _ (by simp) (by simp) (by
      obtain ⟨es2, clock, hb, Ft, hs, hD⟩ := hown
      exact ⟨es2, clock, (Below.heap_alloc _ _ b hbl).trans hb, Ft, hs, hD⟩)
  have cS := AnyZI.sorted_in Tryz.sortedI Fence.wide 5 trivial trivial trivial trivial rfl (by omega) (sortsI _) (enters_of Tryz.func71 (by kernel_rfl) rfl) 72 #[.pointer (some ⟨w.heap.size, 0, none⟩)] trivial (enters_of Tryz.func72 (by kernel_rfl) rfl) _ _ (by rw [hsz]; unfold maxLen; omega) (by rw [hsz]; omega) _ hseq
  change CallsIn _ _ Tryz.prog 52 _ _ _ at cS
  refine (callsIn_wide.1 cS).mono fun e w' ⟨v, ss, h1, h2, h3, _, h5⟩ => ⟨v, ss, _, h1, h2, ⟨es, hp, rfl⟩, ownsRow_base_a h3 (by simp), ?_⟩
  exact ((Below.refl _ w).alloc (Nat.le_refl _) _).trans (h5.mono (by simp))
set_option maxHeartbeats 1000000 in
theorem sortedS_any (b : Nat) (E : Ents) (w : World) (hM : MapIs Tryz.prog 9 b E w) (hl : E.length ≤ 1048576) :
    Calls Tryz.prog 55 #[.func (.func 74) #[] #[.pointer (some ⟨w.heap.size, 0, none⟩)]] (w.alloc (.cells #[.map (some b)] 55)) fun e w' => ∃ (v : Value) (ss : List Bs), e = .returned v ∧ ss.Perm (E.map fun p => strOf p.1) ∧
      w'.ownsRow w.heap.size 9 1 v ss.length ((ss.mergeSort (fun x y => decide (x ≤ y))).map encStr) ∧ Below w.heap.size w w' := by
  obtain ⟨_, es, hown, hp⟩ := hM
  have hbl := hown.lt
  have hsz : Maps.size (DataW.map es) = E.length := by rw [Maps.size_eq, hp.length_eq, length_datE]
  have hkp : (strKeys (DataW.map es)).Perm (E.map fun p => strOf p.1) := by
    have := hp.map fun p => strOf p.1
    unfold datE at this
    rw [List.map_map] at this
    exact this
  have hseq : SeqGives Fence.wide 2 Tryz.prog 74 #[.pointer (some ⟨w.heap.size, 0, none⟩)] encStr (fun ss => ss.Perm (strKeys (DataW.map es))) (Maps.size (DataW.map es)) (w.alloc (.cells #[.map (some b)] 55)) :=
    AnyZ.keys_gives (ρ := Tryz.keysS_ren) { Tryz.keysS with } Fence.wide _ trivial rfl (by omega) w.heap.size b E.length (DataW.map es) _ (by simp) (by simp) (by
      obtain ⟨es2, clock, hb, Ft, hs, hD⟩ := hown
      exact ⟨es2, clock, (Below.heap_alloc _ _ b hbl).trans hb, Ft, hs, hD⟩)
  have cS := AnyZ.sorted_in Tryz.sortedS Fence.wide 5 trivial trivial trivial trivial rfl (by omega) (sortsS _) (enters_of Tryz.func40 (by kernel_rfl) rfl) 74 #[.pointer (some ⟨w.heap.size, 0, none⟩)] trivial (enters_of Tryz.func74 (by kernel_rfl) rfl) _ _ (by rw [hsz]; unfold maxLen; omega) (by rw [hsz]; omega) _ hseq
  change CallsIn _ _ Tryz.prog 55 _ _ _ at cS
  refine (callsIn_wide.1 cS).mono fun e w' ⟨v, ss, h1, h2, h3, _, h5⟩ => ⟨v, ss, h1, h2.trans hkp, ownsRow_base_a h3 (by simp), ?_⟩
  exact ((Below.refl _ w).alloc (Nat.le_refl _) _).trans (h5.mono (by simp))
/-- maps.Clone of names. -/
theorem cloneM_any (b : Nat) (E : Ents) (w : World) (hM : MapIs Tryz.prog 9 b E w) : Calls Tryz.prog 57 #[.map (some b)] w fun e w' => e = .returned (.map (some w.heap.size)) ∧ MapIs Tryz.prog 9 w.heap.size E w' ∧ Below w.heap.size w w' := by
  obtain ⟨hd, es, hown, hp⟩ := hM
  exact (AnyW.maps_Clone_owns Tryz.cloneM 9 hR b E.length (DataW.map es) w hown).mono fun e w' ⟨h1, h2, _, h4⟩ => ⟨h1, ⟨hd, es, h2, hp⟩, h4⟩
end Go.Proofs.YtbodkjifpmencaaGreat
