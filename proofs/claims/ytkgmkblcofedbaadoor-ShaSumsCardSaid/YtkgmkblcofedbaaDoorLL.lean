/-
  The law ShaLong of layer 5. Conditions: the two tables of package sha hold what they are laid with.
-/
import Derived.Test.YtkgmkblcofedbaaDoorRU
import Derived.Test.YtkgmkblcofedbaaDoorSF
import Derived.Deep.RegionHeld3
namespace Go.Proofs.YtkgmkblcofedbaaDoor
open Go.RowKit
open Go.Lib

/-- What holds of each order under a stronger condition holds under a weaker one. -/
theorem held_more {P : Program} {md : Region.Mode} {ops : Array Oper} {Q : Exit → Act → World → Prop} {S S2 : World → Prop} (hS : ∀ w, S2 w → S w) :
    ∀ (fuel : Nat) (listed : Array Bool) (a : Act) (w : World), wpAnyH P md ops Q S2 fuel listed a w → wpAnyH P md ops Q S fuel listed a w
  | 0, _, _, _, h => h
  | fuel + 1, _, _, _, h => ⟨h.1, fun i hi => wpOp_mono (fun a' w' h' => ⟨hS w' h'.1, held_more hS fuel _ a' w' h'.2⟩) (h.2 i hi)⟩
theorem lret_bool {a b : Bool} (h : a = b) : Ending.returned (.bool a) = .returned (.bool b) := by rw [h]
theorem slice_all32 (w : World) (B : Nat) : (Instr.sliceAt 26 (.pointer (some ⟨B, 0, none⟩)) none none none).run Tryd.prog w = .ok (.slice (some ⟨B, 0, none⟩) 32 32) w := by
  have hl : Tryd.prog.arrayLen 26 = 32 := by kernel_rfl
  have he : Tryd.prog.elem 26 = 5 := by kernel_rfl
  rw [run_sliceAt_array_all w 26 ⟨B, 0, none⟩ (by rw [hl, he]; exact Tryd.underlying26), he, hl, size_u8]
  simp only [Result.andThen, slicedAt, Nat.mul_one, Addr.add_mid, Nat.zero_add]
  rw [if_neg (by omega)]
def zero32 : Array Value := #[.int .u8 0, .int .u8 0, .int .u8 0, .int .u8 0, .int .u8 0, .int .u8 0, .int .u8 0, .int .u8 0, .int .u8 0, .int .u8 0, .int .u8 0, .int .u8 0, .int .u8 0, .int .u8 0, .int .u8 0, .int .u8 0, .int .u8 0, .int .u8 0, .int .u8 0, .int .u8 0, .int .u8 0, .int .u8 0, .int .u8 0, .int .u8 0, .int .u8 0, .int .u8 0, .int .u8 0, .int .u8 0, .int .u8 0, .int .u8 0, .int .u8 0, .int .u8 0]
theorem row_zero32 (V : World) : (V.alloc (.cells zero32 26)).rowIs V.heap.size 26 32 (bf []) := World.rowIs_alloc V zero32 26 (bf []) (fun i hi => by
  have h32 : i < 32 := hi
  rw [show zero32 = Array.replicate 32 (Value.int .u8 0) from rfl, Array.getElem?_replicate, if_pos h32]
  rfl)
theorem RS.of_rb {w w' : World} {A : Option Addr} {l : List UInt8} {B : Nat} (h : RB w A l) (hB : w.heap.size ≤ B) (hb : Below B w w') : RS (fun _ => False) w' A l := fun hz => by
  obtain ⟨b, off, e, hl, hc⟩ := h.below hB hb hz
  exact ⟨b, off, e, hl, fun h => h, hc⟩
/-- One part alone. -/
theorem ps_one {w : World} {A : Option Addr} {l : List UInt8} {c n : Nat} (hn : l.length = n) (hc : n ≤ c) (h : RB w A l) :
    PS (fun _ => False) (w.alloc (.cells #[.slice A n c] 22)) (some ⟨w.heap.size, 0, none⟩) [l] := fun _ => by
  have hb : Below w.heap.size w (w.alloc (.cells #[.slice A n c] 22)) := (Below.refl _ _).alloc (Nat.le_refl _) _
  have hr := World.rowIs_alloc w #[.slice A n c] 22 (fun _ => .slice A n c) (fun i hi => by
    obtain rfl : i = 0 := by simp at hi; omega
    rfl)
  refine ⟨w.heap.size, 0, rfl, by simp, fun h => h, fun j hj => ?_⟩
  obtain rfl : j = 0 := by simp at hj; omega
  exact ⟨A, c, by rw [Nat.add_zero, hr.cell (i := 0) (show 0 < 1 by decide)]; rw [show ([l] : List (List UInt8)).getD 0 [] = l from rfl, hn], by rw [show ([l] : List (List UInt8)).getD 0 [] = l from rfl, hn]; exact hc, RS.of_rb h (Nat.le_refl _) hb⟩
/-- The document's Sum, with what its conversion gives. -/
theorem rsum_conv (l : List UInt8) (n : Nat) (hn : l.length = n) (hl : n ≤ 4000) (T : ByteArray) (hT : (⟨(sumP l).toArray⟩ : ByteArray) = T) (A : Option Addr) (c : Nat) (hA : A = none → c = 0) (hc : n ≤ c) (V : World) (hr : RB V A l) :
    Calls Tryd.prog 9 #[.slice A n c] V fun e w' => (∃ A c, e = .returned (.slice A 32 c) ∧ (convert 22 9 (.slice A 32 c)).run Tryd.prog w' = .ok (.string T) w' ∧ RB w' A (sumP l)) ∧ Below V.heap.size V w' := by
  refine (rsum_any A c l n hn hl hA hc V hr).mono ?_
  rintro e w' ⟨⟨v, rfl, ho⟩, hb⟩
  obtain ⟨A, c, rfl, _, hr⟩ := ho.read
  refine ⟨⟨A, c, by rw [sumP_len], ?_, hr⟩, hb⟩
  obtain ⟨b, off, rfl, _, hcs⟩ := hr (by rw [sumP_len]; decide)
  have := run_convert_bytes_back w' 22 9 5 ⟨b, off, none⟩ c (sumP l) Tryd.underlying22 Tryd.underlying5 Tryd.underlying9 (fun j hj => by
    rw [Addr.add_mid, hcs j hj]
    simp [bf, List.getD, hj])
  rw [sumP_len, hT] at this
  exact this
set_option maxRecDepth 100000 in
set_option maxHeartbeats 4000000 in
theorem law_long (b : UInt8) (n : Nat) (hn : n < 65536) (w : World) (hE : Env w) :
    Calls Tryd.prog 5 #[.int .u8 (b.toNat : Int), .int .u16 (n : Int)] w fun e w' => e = .returned (.bool true) ∧ Below w.heap.size w w' := by
  have hf := first_any w hE
  obtain ⟨m, hm⟩ : ∃ m, n % 700 = m := ⟨_, rfl⟩
  have hmi : (n : Int) % 700 = (m : Int) := by omega
  have hm7 : m < 700 := by omega
  clear hm
  go_enter Tryd.func5, Tryd.ntmps5
  go_wp2_with fail
  refine hf.mono ?_
  clear hf
  rintro e w1 ⟨rfl, B1⟩
  go_wp2
  rw [hmi]
  go_loopw [5, 11] (fun tv ti wr => ∃ (k : Nat) (A : Option Addr) (c : Nat), k ≤ m ∧ ti = .int .u16 k ∧ tv = .slice A k c ∧ OwnB wr w.heap.size (.slice A k c) (List.replicate k b) ∧ Below w.heap.size w wr) (fun _ ti _ => m - (RowKit.intOf ti).toNat)
  case atStart => exact ⟨0, none, 0, Nat.zero_le _, rfl, rfl, World.ownsRow_nil _ _ _ _, B1⟩
  case round =>
    clear B1
    obtain ⟨k, A, c, hk, rfl, rfl, hown, hbr⟩ := hrel
    have hbz := hbr.size
    have hlen : (List.replicate k b).length = k := by simp
    by_cases hkm : k < m
    · have hd : decide ((k : Int) < (m : Int)) = true := by simpa using (by omega : (k : Int) < m)
      have hwr : IntKind.u16.wrap ((k : Int) + 1) = ((k + 1 : Nat) : Int) := by rw [IntKind.wrap_u16]; omega
      obtain ⟨L, hL⟩ : ∃ L, List.replicate k b = L := ⟨_, rfl⟩
      have HNX := Lib.hid (show List.replicate (k + 1) b = L ++ [b] by rw [← hL, List.replicate_succ'])
      rw [hL] at hown hlen
      have HRL := Lib.hid hlen
      have HO := Lib.hid hown
      clear hown hlen hL
      go_wp2_with (at_builtin; refine appB rfl _ _ rfl wr w w.heap.size w.heap.size _ L [b] k 1 HRL.out rfl _ rfl rfl (by exact HO.out) rfl (by omega) (by omega) (Nat.le_refl _) hbr ?_)
      intro A3 c3 w3 hown3 _ _ hb3
      go_wp2
      go_roundw
      case rel => exact ⟨k + 1, A3, c3, by omega, by simp, rfl, by rw [HNX.out]; exact hown3, hb3⟩
      case measure => simp [RowKit.intOf]; omega
    · obtain rfl : k = m := by omega
      have hd : decide ((k : Int) < (k : Int)) = false := by simp
      obtain ⟨L, hL⟩ : ∃ L, List.replicate k b = L := ⟨_, rfl⟩
      rw [hL] at hown hlen
      obtain ⟨A', c', hsl, hcc, hrb⟩ := hown.read
      rw [hlen] at hsl hcc
      cases hsl
      have hA : A = none → c = 0 := fun e => by
        rcases hown.2 with ⟨e', _⟩ | ⟨g, cap, cur, e', _⟩
        · exact (Value.slice.inj e').2.2
        · exact absurd (e.symm.trans (Value.slice.inj e').1) (by simp)
      obtain ⟨V1, hV1⟩ : ∃ V1, wr.alloc (.cells #[.slice A k c] 22) = V1 := ⟨_, rfl⟩
      have hb1 : Below wr.heap.size wr V1 := by rw [← hV1]; exact (Below.refl _ _).alloc (Nat.le_refl _) _
      have hbw1 : Below w.heap.size w V1 := hbr.trans (hb1.mono hbz)
      have hP := ps_one hlen hcc hrb
      rw [hV1] at hP
      have hs := sum_any (some ⟨wr.heap.size, 0, none⟩) 1 [L] (by simp [hlen]; omega) (by simp) 1 rfl V1 (hE.after hbw1) hP
      rw [show ([L] : List (List UInt8)).flatten = L by simp] at hs
      have hrb1 := hrb.below (Nat.le_refl _) hb1
      obtain ⟨T, hT⟩ : ∃ T : ByteArray, ⟨(sumP L).toArray⟩ = T := ⟨_, rfl⟩
      have hr := rsum_conv L k hlen (by omega) T hT A c hA hcc
      obtain ⟨s, hsv⟩ : ∃ s, sumP L = s := ⟨_, rfl⟩
      have hs32 : s.length = 32 := by rw [← hsv]; exact sumP_len _
      rw [hsv] at hs hT hr
      have HT := Lib.hid hT
      have HS := Lib.hid hs32
      have hz1 := hbw1.size
      clear hT hsv hs32 hown hlen hL hP hrb hb1 hbr
      go_wp2_with (first | (go_at_call 8; (with_reducible refine hs.mono ?_); rintro e w2 ⟨rfl, hb2⟩) | (guard_target =~ Go.wpList _ _ _ ({ dst := none, op := Go.Op.store 26 _ _, type := _, pos := _, after := _, guard := none } :: _) _ _; refine wpList_store_row rfl rfl 26 (.tmp 6) (.tmp 20) rfl w2.heap.size 26 32 (bf []) (bf s) (cellsB s) rfl rfl (row_zero32 w2) (by rw [cellsB_length, HS.out]) (by kernel_rfl) (cellsB_one _) (fun j hj => cellsB_at _ j (by rw [HS.out]; exact hj)) ?_))
      intro V2 hrow hgr
      have hz2 := hb2.size
      have hbw2 : Below w.heap.size w V2 := ((hbw1.trans (hb2.mono hz1)).alloc (by omega) _).grown hgr (by simp; omega) (fun k hk => by cases hk; omega)
      have hrb2 : RB V2 A L := hrb1.below (Nat.le_refl _) (((hb2.alloc hz2 _).grown hgr (by simp; omega) (fun k hk => by cases hk; omega)))
      have hcv := conv_row V2 w2.heap.size _ s 32 32 HS.out hrow
      have hlt := hrow.lt
      rw [HT.out] at hcv
      have KS : ∀ V : World, Below V2.heap.size V2 V → (convert 22 9 (.slice (some ⟨w2.heap.size, 0, none⟩) 32 32)).run Tryd.prog V = .ok (.string T) V := fun V hV => by
        have := conv_row V w2.heap.size _ s 32 32 HS.out (hrow.of_block (hV.block _ hlt))
        rwa [HT.out] at this
      have hrD : RB V2.drew A L := hrb2.below (Nat.le_refl _) (Below.refl _ _).drew
      have sl := fun U => slice_all32 U w2.heap.size
      have hz3 := hbw2.size
      clear hs hb2 hrow hgr hrb1 hbw1 hlt
      go_wp2
      refine wp_region_held_drew (S := fun w' => (convert 22 9 (.slice (some ⟨w2.heap.size, 0, none⟩) 32 32)).run Tryd.prog w' = .ok (.string T) w') (by kernel_rfl) (KS _ (Below.refl _ _).drew) (fun hHeld => ?_)
      refine wpAnyH_take (i := 0) (v := ?v0) rfl (by kernel_rfl) (by kernel_rfl) (by kernel_rfl) (fun _ _ _ h => h) (Or.inl ⟨by rfl, ?y0⟩) (by assumption) ?r0
      case y0 => (intro W hSw; (try dsimp only at hSw); go_simp <;> with_reducible rfl)
      change wpAnyH _ _ _ _ _ _ _ (Act.put _ (some 21) _) _
      simp only [Act.put, List.setIfInBounds_toArray, List.set_cons_zero, List.set_cons_succ]
      refine wpAnyH_take (i := 1) (v := ?v1) rfl (by kernel_rfl) (by kernel_rfl) (by kernel_rfl) (fun _ _ _ h => h) (Or.inl ⟨by rfl, ?y1⟩) (by assumption) ?r1
      case y1 => (intro W hSw; (try dsimp only at hSw); go_simp <;> with_reducible rfl)
      change wpAnyH _ _ _ _ _ _ _ (Act.put _ (some 22) _) _
      simp only [Act.put, List.setIfInBounds_toArray, List.set_cons_zero, List.set_cons_succ]
      refine wpAnyH_take (i := 2) (v := ?v2) rfl (by kernel_rfl) (by kernel_rfl) (by kernel_rfl) (fun _ _ _ h => h) (Or.inl ⟨by rfl, ?y2⟩) (by assumption) ?r2
      case y2 => (intro W hSw; (try dsimp only at hSw); go_simp <;> with_reducible rfl)
      change wpAnyH _ _ _ _ _ _ _ (Act.put _ (some 23) _) _
      simp only [Act.put, List.setIfInBounds_toArray, List.set_cons_zero, List.set_cons_succ]
      refine wpAnyH_ready (rs := [3]) (by kernel_rfl) (by simp) ?_
      refine AllReadyH.cons rfl (fun K hK => ?_) AllReadyH.nil
      go_simp
      refine (hr V2.drew hrD).mono ?_
      rintro e w4 ⟨⟨A4, c4, rfl, hcv4, _⟩, hb4'⟩
      have hb4 := (Below.refl V2.heap.size V2).drew.trans (hb4'.mono (Nat.le_refl _))
      refine hK.out _ _ (KS _ hb4) (fun hHeld7 => ?_)
      clear hK K
      refine held_more (S2 := fun w' => ((convert 22 9 (.slice (some ⟨w2.heap.size, 0, none⟩) 32 32)).run Tryd.prog w' = .ok (.string T) w') ∧ (convert 22 9 (.slice A4 32 c4)).run Tryd.prog w' = .ok (.string T) w') (fun _ h => h.1) _ _ _ _ ?_
      have hHeld0 := And.intro (KS _ hb4) hcv4
      have hwt : IntKind.i64.wrap ((n : Int).tmod 700) = (k : Int) := by rw [Int.tmod_eq_emod_of_nonneg (Int.natCast_nonneg n), hmi]; exact IntWalk.i64_in _ (by omega)
      refine wpAnyH_take (i := 4) (v := ?v10) rfl (by kernel_rfl) (by kernel_rfl) (by kernel_rfl) (fun _ _ _ h => h) (Or.inl ⟨by rfl, ?y10⟩) (by assumption) ?r10
      case y10 => (intro W hSw; (try dsimp only at hSw); go_simp <;> with_reducible rfl)
      change wpAnyH _ _ _ _ _ _ _ (Act.put _ (some 25) _) _
      simp only [Act.put, List.setIfInBounds_toArray, List.set_cons_zero, List.set_cons_succ]
      refine wpAnyH_take (i := 5) (v := ?v11) rfl (by kernel_rfl) (by kernel_rfl) (by kernel_rfl) (fun _ _ _ h => h) (Or.inl ⟨by rfl, ?y11⟩) (by assumption) ?r11
      case y11 => (intro W hSw; (try dsimp only at hSw); go_simp <;> with_reducible rfl)
      change wpAnyH _ _ _ _ _ _ _ (Act.put _ (some 26) _) _
      simp only [Act.put, List.setIfInBounds_toArray, List.set_cons_zero, List.set_cons_succ]
      refine wpAnyH_take (i := 6) (v := ?v12) rfl (by kernel_rfl) (by kernel_rfl) (by kernel_rfl) (fun _ _ _ h => h) (Or.inl ⟨by rfl, ?y12⟩) (by assumption) ?r12
      case y12 => (intro W hSw; (try dsimp only at hSw); go_simp <;> with_reducible rfl)
      change wpAnyH _ _ _ _ _ _ _ (Act.put _ (some 27) _) _
      simp only [Act.put, List.setIfInBounds_toArray, List.set_cons_zero, List.set_cons_succ]
      refine wpAnyH_take (i := 7) (v := ?v13) rfl (by kernel_rfl) (by kernel_rfl) (by kernel_rfl) (fun _ _ _ h => h) (Or.inl ⟨by rfl, ?y13⟩) (by assumption) ?r13
      case y13 => (intro W hSw; (try dsimp only at hSw); go_simp <;> with_reducible rfl)
      change wpAnyH _ _ _ _ _ _ _ (Act.put _ (some 28) _) _
      simp only [Act.put, List.setIfInBounds_toArray, List.set_cons_zero, List.set_cons_succ]
      refine wpAnyH_take (i := 8) (v := ?v14) rfl (by kernel_rfl) (by kernel_rfl) (by kernel_rfl) (fun _ _ _ h => h) (Or.inl ⟨by rfl, ?y14⟩) (by assumption) ?r14
      case y14 => (intro W hSw; (try dsimp only at hSw); go_simp <;> with_reducible rfl)
      change wpAnyH _ _ _ _ _ _ _ (Act.put _ (some 29) _) _
      simp only [Act.put, List.setIfInBounds_toArray, List.set_cons_zero, List.set_cons_succ]
      refine wpAnyH_take (i := 9) (v := ?v15) rfl (by kernel_rfl) (by kernel_rfl) (by kernel_rfl) (fun _ _ _ h => h) (Or.inl ⟨by rfl, ?y15⟩) (by assumption) ?r15
      case y15 => (intro W hSw; (try dsimp only at hSw); go_simp <;> with_reducible rfl)
      change wpAnyH _ _ _ _ _ _ _ (Act.put _ (some 30) _) _
      simp only [Act.put, List.setIfInBounds_toArray, List.set_cons_zero, List.set_cons_succ]
      refine wpAnyH_take (i := 10) (v := ?v16) rfl (by kernel_rfl) (by kernel_rfl) (by kernel_rfl) (fun _ _ _ h => h) (Or.inl ⟨by rfl, ?y16⟩) (by assumption) ?r16
      case y16 => (intro W hSw; (try dsimp only at hSw); go_simp <;> with_reducible rfl)
      change wpAnyH _ _ _ _ _ _ _ (Act.put _ (some 31) _) _
      simp only [Act.put, List.setIfInBounds_toArray, List.set_cons_zero, List.set_cons_succ]
      refine wpAnyH_take (i := 11) (v := ?v17) rfl (by kernel_rfl) (by kernel_rfl) (by kernel_rfl) (fun _ _ _ h => h) (Or.inl ⟨by rfl, ?y17⟩) (by assumption) ?r17
      case y17 => (intro W hSw; (try dsimp only at hSw); go_simp <;> with_reducible rfl)
      change wpAnyH _ _ _ _ _ _ _ (Act.put _ (some 32) _) _
      simp only [Act.put, List.setIfInBounds_toArray, List.set_cons_zero, List.set_cons_succ]
      refine wpAnyH_take (i := 12) (v := ?v18) rfl (by kernel_rfl) (by kernel_rfl) (by kernel_rfl) (fun _ _ _ h => h) (Or.inl ⟨by rfl, ?y18⟩) (by assumption) ?r18
      case y18 => (intro W hSw; (try dsimp only at hSw); go_simp <;> with_reducible rfl)
      change wpAnyH _ _ _ _ _ _ _ (Act.put _ (some 33) _) _
      simp only [Act.put, List.setIfInBounds_toArray, List.set_cons_zero, List.set_cons_succ]
      refine wpAnyH_take (i := 13) (v := ?v19) rfl (by kernel_rfl) (by kernel_rfl) (by kernel_rfl) (fun _ _ _ h => h) (Or.inl ⟨by rfl, ?y19⟩) (by assumption) ?r19
      case y19 => (intro W hSw; (try dsimp only at hSw); go_simp <;> with_reducible rfl)
      change wpAnyH _ _ _ _ _ _ _ (Act.put _ (some 34) _) _
      simp only [Act.put, List.setIfInBounds_toArray, List.set_cons_zero, List.set_cons_succ]
      refine wpAnyH_take (i := 14) (v := ?v20) rfl (by kernel_rfl) (by kernel_rfl) (by kernel_rfl) (fun _ _ _ h => h) (Or.inl ⟨by rfl, ?y20⟩) (by assumption) ?r20
      case y20 => (intro W hSw; (try dsimp only at hSw); go_simp <;> with_reducible rfl)
      change wpAnyH _ _ _ _ _ _ _ (Act.put _ (some 4) _) _
      simp only [Act.put, List.setIfInBounds_toArray, List.set_cons_zero, List.set_cons_succ]
      refine wpAnyH_done (by kernel_rfl) ?_ _
      go_wp2
      go_ret
      exact ⟨lret_bool (by simp), hbw2.trans (hb4.mono hz3)⟩
end Go.Proofs.YtkgmkblcofedbaaDoor
