/-
  The walk of the document's Sum. Conditions: at most 4000 bytes.
-/
import Derived.Test.YtkgmkblcofedbaaDoorRV
import Derived.Deep.DeepCutAuto
import Derived.Deep.RegionHeld3
import Derived.Deep.CutBlock
namespace Go.Proofs.YtkgmkblcofedbaaDoor
open Go.RowKit
open Go.Lib

theorem byte_shr (n s : Nat) : ((UInt8.ofNat (n / 2 ^ s)).toNat : Int) = ((n / 2 ^ s : Nat) : Int) % 256 := by simp
def padTo (l : List UInt8) (j : Nat) : List UInt8 := l ++ 128 :: List.replicate j 0
theorem padTo_len (l : List UInt8) (j : Nat) : (padTo l j).length = l.length + 1 + j := by simp [padTo]; omega
theorem padTo_snoc (l : List UInt8) (j : Nat) : padTo l j ++ [0] = padTo l (j + 1) := by simp [padTo, List.replicate_succ']
theorem padTo_all (l : List UInt8) : padTo l (nou l.length) ++ be8 (8 * l.length) = padL l := by simp [padTo, padL, tailL]
theorem be8_snoc (n j : Nat) : (be8 n).take j ++ [UInt8.ofNat (n / 2 ^ (56 - 8 * j))] = (be8 n).take (j + 1) ∨ 8 ≤ j := by
  by_cases h : j < 8
  · left
    rw [List.take_succ_eq_append_getElem (by rw [be8_length]; exact h)]
    have := be8_at n j h
    simp only [List.getD] at this
    rw [List.getElem?_eq_getElem (by rw [be8_length]; exact h)] at this
    rw [← this]
    rfl
  · right; omega
def foldC (s : St) (ls : List (List UInt8)) : St := ls.foldl (comp K0) s
def SumIs (P : List UInt8) (s : St) (q : Nat) (r : List UInt8) : Prop := foldC s (chunks q r) = sumS P
set_option maxRecDepth 400000 in
set_option maxHeartbeats 8000000 in
theorem rsum_any (A : Option Addr) (c : Nat) (l : List UInt8) (n : Nat) (hn : l.length = n) (hl : n ≤ 4000) (hA : A = none → c = 0) (_ : n ≤ c) (w : World) (hr : RB w A l) :
    Calls Tryd.prog 9 #[.slice A n c] w fun e w' => (∃ v, e = .returned v ∧ OwnB w' w.heap.size v (sumP l)) ∧ Below w.heap.size w w' := by
  go_enter Tryd.func9, Tryd.ntmps9
  go_wp2_with (at_builtin; refine appIn rfl _ _ rfl w w w.heap.size l n c A hn hA rfl rfl hr (by omega) (Nat.le_refl _) (Below.refl _ _) ?_)
  intro v1 w1 hown1 hb1
  obtain ⟨A1, c1, rfl, hc1, hr1⟩ := hown1.read
  rw [hn] at hc1 hown1 ⊢
  have hw1 := hb1.size
  have HN := Lib.hid hn
  go_wp2_with (at_builtin; refine appB rfl _ _ rfl w1 w w.heap.size w.heap.size _ l [128] n 1 HN.out rfl _ rfl rfl (by exact hown1) rfl (by omega) (by omega) (Nat.le_refl _) hb1 ?_)
  intro A2 c2 w2 hown2 hr2 hc2 hb2
  have hp0 : l ++ [128] = padTo l 0 := rfl
  rw [hp0] at hown2 hr2
  clear hr hA hown1 hr1 hc1 hw1 hb1 hp0 hn
  obtain ⟨N0, hN0⟩ : ∃ q, nou n = q := ⟨_, rfl⟩
  have hNf : N0 = (119 - n % 64) % 64 := by rw [← hN0]; rfl
  have HN0 := Lib.hid hN0
  have HNF := Lib.hid hNf
  have hN64 : N0 < 64 := by rw [← hN0]; exact nou_lt n
  clear hN0 hNf
  go_wp2
  go_loopw [0] (fun tv wr => ∃ (j : Nat) (A : Option Addr) (c : Nat), j ≤ N0 ∧ tv = .slice A (n + 1 + j) c ∧ OwnB wr w.heap.size (.slice A (n + 1 + j) c) (padTo l j) ∧ Below w.heap.size w wr) (fun tv _ => match tv with | .slice _ k _ => 5000 - k | _ => 0)
  case atStart => exact ⟨0, A2, c2, Nat.zero_le _, rfl, hown2, hb2⟩
  case round =>
    clear hown2 hb2 hr2
    obtain ⟨j, A, c, hj, rfl, hown, hbr⟩ := hrel
    have hbz := hbr.size
    have HO := Lib.hid hown
    obtain ⟨M, hM⟩ : ∃ q, n + 1 + j = q := ⟨_, rfl⟩
    have hpl : (padTo l j).length = M := by rw [padTo_len, HN.out, hM]
    have HPL := Lib.hid hpl
    rw [hM] at HO ⊢
    by_cases hjl : j < N0
    · have hne : (((M : Int) % 64) != 56) = true := by have := HNF.out; simp; omega
      have hM' : M ≤ 4100 := by omega
      have HM := Lib.hid hM
      clear hM hpl hown
      go_wp2_with (at_builtin; refine appB rfl _ _ rfl wr w w.heap.size w.heap.size _ (padTo l j) [0] M 1 HPL.out rfl _ rfl rfl (by exact HO.out) rfl (by omega) (by omega) (Nat.le_refl _) hbr ?_)
      intro A3 c3 w3 hown3 _ _ hb3
      rw [padTo_snoc] at hown3
      go_wp2
      go_roundw
      case rel => exact ⟨j + 1, A3, c3, by omega, by rw [← HM.out]; rfl, by rw [show n + 1 + (j + 1) = M + 1 by have := HM.out; omega]; exact hown3, hb3⟩
      case measure => simp; omega
    · obtain rfl : j = N0 := by omega
      have hne : (((M : Int) % 64) != 56) = false := by have := HNF.out; simp; omega
      have hM' : M ≤ 4100 := by omega
      have HM := Lib.hid hM
      obtain ⟨P0, hP0⟩ : ∃ q, padTo l j = q := ⟨_, rfl⟩
      rw [hP0] at HO HPL
      have HP0 := Lib.hid hP0
      clear hM hpl hown hP0
      go_wp2
      go_loopw [0, 4] (fun tv ts wr => ∃ (m : Nat) (A : Option Addr) (c : Nat), m ≤ 8 ∧ ts = .int .i64 ((m : Int) - 1) ∧ tv = .slice A (M + (8 - m)) c ∧ OwnB wr w.heap.size (.slice A (M + (8 - m)) c) (P0 ++ (be8 (8 * n)).take (8 - m)) ∧ Below w.heap.size w wr) (fun _ ts _ => (RowKit.intOf ts + 1).toNat)
      case atStart => exact ⟨8, A, c, Nat.le_refl _, rfl, rfl, by rw [Nat.sub_self, List.take_zero, List.append_nil]; exact HO.out, hbr⟩
      case round =>
        clear HO hbr
        obtain ⟨m, A, c, hm, rfl, rfl, hown, hbr⟩ := hrel
        have hbz := hbr.size
        rcases m with _ | s
        · rw [show (((0 : Nat) : Int) - 1) = -1 by omega]
          have hown' : OwnB wr w.heap.size (.slice A (M + 8) c) (padL l) := by
            have := hown
            rw [show 8 - 0 = 8 from rfl, List.take_of_length_le (by rw [be8_length]; exact Nat.le_refl _), ← HP0.out, ← HN0.out, ← HN.out, padTo_all] at this
            exact this
          rw [show M + (8 - 0) = M + 8 from rfl]
          clear hown
          obtain ⟨q0, hq0⟩ := padL_length l
          obtain ⟨A', c', hsl, hcc, hrb⟩ := hown'.read
          obtain ⟨T, hT⟩ : ∃ q, M + 8 = q := ⟨_, rfl⟩
          have hPT : (padL l).length = T := by rw [← padTo_all l, HN.out, HN0.out, HP0.out, List.length_append, HPL.out, be8_length, hT]
          rw [hPT] at hsl hcc hq0
          rw [hT] at hsl ⊢
          cases hsl
          have hsum0 : ∀ u : List UInt8, u = padL l → SumIs l H0 q0 u := fun u hu => by
            unfold SumIs foldC sumS blks
            rw [hu, hPT, hq0, Nat.mul_div_cancel_left _ (by decide)]
          have hT5 : T ≤ 4300 := by omega
          obtain ⟨P, hP⟩ : ∃ q, padL l = q := ⟨_, rfl⟩
          rw [hP] at hPT hrb
          have HSUM := fun u (hu : u = P) => hsum0 u (by rw [hu, hP])
          have HPT := Lib.hid hPT
          have HQ0 := Lib.hid hq0
          clear hq0 hown' hP hPT hsum0 hT hM' HPL HP0 HN0 HNF
          go_wp2_with (go_at_call 16; refine (tables_any _).mono ?_; rintro e w3 ⟨⟨Ah, ch, Ak, ck, rfl, hrh, hrk⟩, hb3⟩)
          have hbw3 : Below w.heap.size w w3 := hbr.trans (hb3.mono hbz)
          have hrb3 := RB.below hrb (Nat.le_refl _) hb3
          obtain ⟨hs0, hhs0⟩ : ∃ q, lstOf H0 = q := ⟨_, rfl⟩
          obtain ⟨KT, hKT⟩ : ∃ q, K0 = q := ⟨_, rfl⟩
          rw [hhs0] at hrh
          rw [hKT] at hrk
          have HH0 : ∀ u : List W32, u = hs0 → lstOf H0 = u := fun u hu => by rw [hhs0, hu]
          have HKT : ∀ u : List W32, u = KT → K0 = u := fun u hu => by rw [hKT, hu]
          have hKTl : KT.length = 64 := by rw [← hKT]; rfl
          have HKL := Lib.hid hKTl
          clear hhs0 hKT hKTl hbr hb3 hrb
          go_loopw [0, 5] (fun tb th wr => ∃ (q : Nat) (r : List UInt8) (A : Option Addr) (c : Nat) (Ah : Option Addr) (ch : Nat) (st : St) (hs : List W32), q ≤ q0 ∧ tb = .slice A r.length c ∧ Hid (r.length = 64 * q) ∧ r.length ≤ c ∧ r.length ≤ 4300 ∧ RB wr A r ∧ th = .slice Ah 8 ch ∧ RW wr Ah hs ∧ (∀ u : List W32, u = hs → lstOf st = u) ∧ (∀ u : St, u = st → SumIs l u q r) ∧ RW wr Ak KT ∧ Below w.heap.size w wr) (fun tb _ _ => match tb with | .slice _ k _ => k | _ => 0)
          case atStart => exact ⟨q0, P, A, c, Ah, ch, H0, hs0, Nat.le_refl _, by rw [HPT.out], by rw [HPT.out]; exact HQ0.out, by rw [HPT.out]; exact hcc, by rw [HPT.out]; exact hT5, hrb3, rfl, hrh, HH0, fun u hu => by rw [hu]; exact HSUM P rfl, hrk, hbw3⟩
          case round =>
            clear hrb3 hrh hrk hbw3 HH0 HSUM hcc hT5
            obtain ⟨q, r, A, c, Ah, ch, st, hs, hqle, rfl, hrl, hrc, hr43, hrb, rfl, hrh, hst, hsm, hrk, hbr⟩ := hrel
            have hbz := hbr.size
            obtain ⟨R, hR⟩ : ∃ q, r.length = q := ⟨_, rfl⟩
            rw [hR] at hrc hr43 ⊢
            have HR := Lib.hid hR
            rcases Nat.eq_zero_or_pos R with h0 | h0
            · obtain rfl : R = 0 := h0
              have hq : q = 0 := by have := hrl.out; omega
              have hfin : ∀ u : St, u = st → sumS l = u := fun u hu => by
                have := hsm u hu
                unfold SumIs foldC at this
                rw [hq] at this
                exact this.symm
              clear hR hq hsm hrb hrk hrl
              as_aux_lemma =>
                obtain ⟨o, ho⟩ : ∃ z, outL st = z := ⟨_, rfl⟩
                have hfo : ∀ u : List UInt8, u = o → sumP l = u := fun u hu => by rw [hu, ← ho]; unfold sumP; rw [hfin st rfl]
                have hs8 := hst hs rfl
                have hsl8 : hs.length = 8 := by rw [← hs8]; rfl
                have hob : ∀ i, i < 8 → ∀ y : W32, hs.getD i 0#32 = y → o.take (4 * (i + 1)) = o.take (4 * i) ++ wbytes y := fun i hi y hy => by rw [← ho, ← hy, ← hs8]; exact out_take st i hi
                have hol : o.length = 32 := by rw [← ho]; rfl
                have HS8 := Lib.hid hsl8
                have HOL := Lib.hid hol
                obtain ⟨W9, hW9⟩ : ∃ V, V = wr := ⟨_, rfl⟩
                subst hW9
                clear hs8 hsl8 hol ho hst hfin
                go_wp2
                go_loopw [22, 294] (fun tv ti wr => ∃ (i : Nat) (A : Option Addr) (c : Nat), i ≤ 8 ∧ ti = .int .i64 i ∧ tv = .slice A (4 * i) c ∧ OwnB wr W9.heap.size (.slice A (4 * i) c) (o.take (4 * i)) ∧ Below W9.heap.size W9 wr) (fun _ ti _ => 8 - (RowKit.intOf ti).toNat)
                case atStart => exact ⟨0, none, 0, by omega, rfl, rfl, World.ownsRow_nil _ _ _ _, Below.refl _ _⟩
                case round =>
                  obtain ⟨i, A, c, hi, rfl, rfl, hown, hb9⟩ := hrel
                  have hb9z := hb9.size
                  by_cases hil : i < 8
                  · obtain ⟨gh, rfl, hghl, hch⟩ := (hrh.below (Nat.le_refl _) hb9) (by rw [HS8.out]; decide)
                    have eH := hch i (by rw [HS8.out]; exact hil)
                    obtain ⟨y, hy⟩ : ∃ z, hs.getD i 0#32 = z := ⟨_, rfl⟩
                    have hnx := hob i hil y hy
                    rw [wf_get hy] at eH
                    have xH : ∀ U, (Instr.indexAt 48 (.slice (some ⟨gh, 0, none⟩) 8 ch) (.int .i64 (i : Int))).run Tryd.prog U = .ok (.pointer (some ⟨gh, i, none⟩)) U := fun U => by have := ix_slice U _ _ gh 0 8 ch (i : Int) i Tryd.underlying48 (size_u32 U) rfl hil; rwa [Nat.zero_add] at this
                    have hyl := w_lt y
                    obtain ⟨y0, hy0⟩ : ∃ z, UInt8.ofNat (y.toNat / 16777216) = z := ⟨_, rfl⟩
                    obtain ⟨y1, hy1⟩ : ∃ z, UInt8.ofNat (y.toNat / 65536) = z := ⟨_, rfl⟩
                    obtain ⟨y2, hy2⟩ : ∃ z, UInt8.ofNat (y.toNat / 256) = z := ⟨_, rfl⟩
                    obtain ⟨y3, hy3⟩ : ∃ z, UInt8.ofNat y.toNat = z := ⟨_, rfl⟩
                    have v0 : (y.toNat : Int) / (16777216 : Int) = (y0.toNat : Int) := by rw [← hy0, u8_toNat]; omega
                    have v1 : (y.toNat : Int) / (65536 : Int) % 256 = (y1.toNat : Int) := by rw [← hy1, u8_toNat]; omega
                    have v2 : (y.toNat : Int) / (256 : Int) % 256 = (y2.toNat : Int) := by rw [← hy2, u8_toNat]; omega
                    have v3 : (y.toNat : Int) % 256 = (y3.toNat : Int) := by rw [← hy3, u8_toNat]
                    have hwb : wbytes y = [y0, y1, y2, y3] := by unfold wbytes; rw [hy0, hy1, hy2, hy3]
                    rw [hwb] at hnx
                    have HNX := Lib.hid hnx
                    have HO := Lib.hid hown
                    obtain ⟨oi, hoi⟩ : ∃ z, o.take (4 * i) = z := ⟨_, rfl⟩
                    obtain ⟨I4, hI4⟩ : ∃ z, 4 * i = z := ⟨_, rfl⟩
                    have hoil : oi.length = I4 := by rw [← hoi, List.length_take, HOL.out]; omega
                    rw [hoi, hI4] at HO
                    rw [hoi] at HNX
                    rw [hI4]
                    have HOI := Lib.hid hoil
                    have HI4 := Lib.hid hI4
                    have hI32 : I4 ≤ 32 := by omega
                    have V0 := Lib.hid v0
                    have V1 := Lib.hid v1
                    have V2 := Lib.hid v2
                    have V3 := Lib.hid v3
                    clear v0 v1 v2 v3 hyl hown hnx hwb hy0 hy1 hy2 hy3 hoi hI4 hoil hy hch
                    go_wp2_with (first | (guard_target =~ Go.wpList _ _ _ ({ dst := _, op := Go.Op.buildSlice _ _ _, type := _, pos := _, after := _, guard := none } :: _) _ _; refine bs4 rfl rfl rfl rfl V0.out V1.out V2.out V3.out ?_) | (at_builtin; refine appB rfl _ _ rfl wr W9 W9.heap.size W9.heap.size _ oi [y0, y1, y2, y3] I4 4 HOI.out rfl _ rfl rfl (by exact HO.out) rfl (by omega) (by omega) (Nat.le_refl _) hb9 ?_))
                    intro A3 c3 w3 hown3 _ _ hb3
                    go_wp2
                    go_roundw
                    case rel => exact ⟨i + 1, A3, c3, by omega, by go_num, by rw [show 4 * (i + 1) = I4 + 4 by have := HI4.out; omega], by rw [HNX.out, show 4 * (i + 1) = I4 + 4 by have := HI4.out; omega]; exact hown3, hb3⟩
                    case measure => simp [RowKit.intOf]; omega
                  · obtain ⟨i8, hi8⟩ : ∃ z, i = z := ⟨_, rfl⟩
                    have hF : OwnB wr W9.heap.size (.slice A (4 * i) c) o := by have := hown; rwa [List.take_of_length_le (by rw [HOL.out]; omega)] at this
                    have hF2 : OwnB wr w.heap.size (.slice A (4 * i) c) o := Joins.ownsRow_le hF hbz
                    have hge : 8 ≤ i := by omega
                    clear hi8 hown hF hob
                    go_wp2
                    go_ret
                    exact ⟨⟨_, rfl, by rw [hfo o rfl]; exact hF2⟩, hbr.trans (hb9.mono hbz)⟩
            · have hR64 : 64 ≤ R := by have := hrl.out; omega
              obtain ⟨q', hq'⟩ : ∃ z, q = z + 1 := ⟨q - 1, by have := hrl.out; omega⟩
              subst hq'
              obtain ⟨x, hx⟩ : ∃ z, r.take 64 = z := ⟨_, rfl⟩
              have hxl : x.length = 64 := by rw [← hx, List.length_take]; omega
              have hxg : ∀ j, j < 64 → x.getD j 0 = r.getD j 0 := fun j hj => by rw [← hx]; simp only [List.getD]; rw [List.getElem?_take_of_lt hj]
              have hsm2 : ∀ u : St, u = comp K0 st x → SumIs l u q' (r.drop 64) := fun u hu => by
                have := hsm st rfl
                unfold SumIs foldC at this ⊢
                simp only [chunks, List.foldl_cons] at this
                rw [hu, ← hx]
                exact this
              have hcmp : ∀ ws : List W32, ws = sched x → ∀ t, t = addSt st (rnds K0 ws 64 st) → comp K0 st x = t := fun ws hws t ht => by rw [ht, hws]; rfl
              obtain ⟨A', hsl, hrb'⟩ := slice_drop wr A r R c hR hR64 hrc hrb
              obtain ⟨cc, hcc0⟩ : ∃ z, z = c := ⟨_, rfl⟩
              have hd0 : decide ((0 : Int) < (R : Int)) = true := by simpa using (by omega : (0 : Int) < R)
              have HDL := Lib.hid (show (r.drop 64).length = R - 64 by rw [List.length_drop, hR])
              have HQ' := Lib.hid (show (r.drop 64).length = 64 * q' by rw [List.length_drop]; have := hrl.out; omega)
              obtain ⟨b, off, rfl, hbl, hcs⟩ := hrb (by rw [hR]; exact h0)
              have hcs' : ∀ j, j < 64 → wr.cell? ⟨b, off + j, none⟩ = some (.int .u8 ((x.getD j 0).toNat : Int)) := fun j hj => by rw [hcs j (by omega), hxg j hj]; rfl
              have HCS := Lib.hid hcs'
              obtain ⟨W0, hW0⟩ : ∃ V, V = wr := ⟨_, rfl⟩
              subst hW0
              subst hcc0
              clear hsm hcs hcs' hrb hrl hR hx hxg
              go_wp2
              go_loopw [7, 8] (fun tv ti wr => ∃ (k : Nat) (A7 : Option Addr) (c7 : Nat), k ≤ 64 ∧ ti = .int .i64 k ∧ tv = .slice A7 k c7 ∧ OwnW wr W0.heap.size (.slice A7 k c7) (wl x k) ∧ RW wr A7 (wl x k) ∧ Below W0.heap.size W0 wr) (fun _ ti _ => 64 - (RowKit.intOf ti).toNat)
              case atStart => exact ⟨0, none, 0, Nat.zero_le _, rfl, rfl, World.ownsRow_nil _ _ _ _, fun h => absurd h (by rw [wl_len]; decide), Below.refl _ _⟩
              case round =>
                obtain ⟨k, A7, c7, hk, rfl, rfl, hown, hrw, hb7⟩ := hrel
                have hb7z := hb7.size
                have HO := Lib.hid hown
                obtain ⟨wk, hwk⟩ : ∃ z, wl x k = z := ⟨_, rfl⟩
                have hwl : wk.length = k := by rw [← hwk]; exact wl_len x k
                rw [hwk] at HO hrw
                by_cases hk64 : k < 64
                · by_cases hk16 : k < 16
                  · have hlow := wl_low x k hk16
                    rw [hwk] at hlow
                    as_aux_lemma =>
                      obtain ⟨b0, hb0⟩ : ∃ z, x.getD (4 * k) 0 = z := ⟨_, rfl⟩
                      have k0 : ∀ V : World, Below W0.heap.size W0 V → V.cell? ⟨b, off + (4 * k), none⟩ = some (.int .u8 (b0.toNat : Int)) := fun V hV => by rw [hV.cell (p := ⟨b, off + (4 * k), none⟩) hbl, HCS.out (4 * k) (by omega), hb0]
                      have c0 := k0 wr hb7
                      have x0 : ∀ U, (Instr.indexAt 22 (.slice (some ⟨b, off, none⟩) R cc) (.int .i64 (4 * (k : Int)))).run Tryd.prog U = .ok (.pointer (some ⟨b, off + (4 * k), none⟩)) U := fun U => ix_slice U _ _ b off R cc _ (4 * k) Tryd.underlying22 (size_u8 U) (by omega) (by omega)
                      have z0 : IntKind.i64.wrap (4 * (k : Int)) = 4 * (k : Int) := IntWalk.i64_in _ (by omega)
                      have l0 := b0.toNat_lt
                      have v0 : IntKind.u32.wrap (b0.toNat : Int) = (b0.toNat : Int) := by rw [IntKind.wrap_u32]; omega
                      obtain ⟨b1, hb1⟩ : ∃ z, x.getD (4 * k + 1) 0 = z := ⟨_, rfl⟩
                      have k1 : ∀ V : World, Below W0.heap.size W0 V → V.cell? ⟨b, off + (4 * k + 1), none⟩ = some (.int .u8 (b1.toNat : Int)) := fun V hV => by rw [hV.cell (p := ⟨b, off + (4 * k + 1), none⟩) hbl, HCS.out (4 * k + 1) (by omega), hb1]
                      have c1 := k1 wr hb7
                      have x1 : ∀ U, (Instr.indexAt 22 (.slice (some ⟨b, off, none⟩) R cc) (.int .i64 (4 * (k : Int) + 1))).run Tryd.prog U = .ok (.pointer (some ⟨b, off + (4 * k + 1), none⟩)) U := fun U => ix_slice U _ _ b off R cc _ (4 * k + 1) Tryd.underlying22 (size_u8 U) (by omega) (by omega)
                      have z1 : IntKind.i64.wrap (4 * (k : Int) + 1) = 4 * (k : Int) + 1 := IntWalk.i64_in _ (by omega)
                      have l1 := b1.toNat_lt
                      have v1 : IntKind.u32.wrap (b1.toNat : Int) = (b1.toNat : Int) := by rw [IntKind.wrap_u32]; omega
                      obtain ⟨b2, hb2⟩ : ∃ z, x.getD (4 * k + 2) 0 = z := ⟨_, rfl⟩
                      have k2 : ∀ V : World, Below W0.heap.size W0 V → V.cell? ⟨b, off + (4 * k + 2), none⟩ = some (.int .u8 (b2.toNat : Int)) := fun V hV => by rw [hV.cell (p := ⟨b, off + (4 * k + 2), none⟩) hbl, HCS.out (4 * k + 2) (by omega), hb2]
                      have c2 := k2 wr hb7
                      have x2 : ∀ U, (Instr.indexAt 22 (.slice (some ⟨b, off, none⟩) R cc) (.int .i64 (4 * (k : Int) + 2))).run Tryd.prog U = .ok (.pointer (some ⟨b, off + (4 * k + 2), none⟩)) U := fun U => ix_slice U _ _ b off R cc _ (4 * k + 2) Tryd.underlying22 (size_u8 U) (by omega) (by omega)
                      have z2 : IntKind.i64.wrap (4 * (k : Int) + 2) = 4 * (k : Int) + 2 := IntWalk.i64_in _ (by omega)
                      have l2 := b2.toNat_lt
                      have v2 : IntKind.u32.wrap (b2.toNat : Int) = (b2.toNat : Int) := by rw [IntKind.wrap_u32]; omega
                      obtain ⟨b3, hb3⟩ : ∃ z, x.getD (4 * k + 3) 0 = z := ⟨_, rfl⟩
                      have k3 : ∀ V : World, Below W0.heap.size W0 V → V.cell? ⟨b, off + (4 * k + 3), none⟩ = some (.int .u8 (b3.toNat : Int)) := fun V hV => by rw [hV.cell (p := ⟨b, off + (4 * k + 3), none⟩) hbl, HCS.out (4 * k + 3) (by omega), hb3]
                      have c3 := k3 wr hb7
                      have x3 : ∀ U, (Instr.indexAt 22 (.slice (some ⟨b, off, none⟩) R cc) (.int .i64 (4 * (k : Int) + 3))).run Tryd.prog U = .ok (.pointer (some ⟨b, off + (4 * k + 3), none⟩)) U := fun U => ix_slice U _ _ b off R cc _ (4 * k + 3) Tryd.underlying22 (size_u8 U) (by omega) (by omega)
                      have z3 : IntKind.i64.wrap (4 * (k : Int) + 3) = 4 * (k : Int) + 3 := IntWalk.i64_in _ (by omega)
                      have l3 := b3.toNat_lt
                      have v3 : IntKind.u32.wrap (b3.toNat : Int) = (b3.toNat : Int) := by rw [IntKind.wrap_u32]; omega
                      obtain ⟨Wd, hWd⟩ : ∃ z, wordAt x k = z := ⟨_, rfl⟩
                      have hWv : Wd.toNat = b0.toNat * 16777216 + b1.toNat * 65536 + b2.toNat * 256 + b3.toNat := by rw [← hWd]; unfold wordAt be4; rw [BitVec.toNat_ofNat, hb0, hb1, hb2, hb3, show (2 : Nat) ^ 32 = 4294967296 from rfl, Nat.mod_eq_of_lt (by omega)]
                      obtain ⟨X0, hX0⟩ : ∃ z, b0.toNat * 16777216 = z := ⟨_, rfl⟩
                      obtain ⟨X1, hX1⟩ : ∃ z, b1.toNat * 65536 = z := ⟨_, rfl⟩
                      obtain ⟨X2, hX2⟩ : ∃ z, b2.toNat * 256 = z := ⟨_, rfl⟩
                      obtain ⟨Y1, hY1⟩ : ∃ z, X0 + X1 = z := ⟨_, rfl⟩
                      obtain ⟨Y2, hY2⟩ : ∃ z, Y1 + X2 = z := ⟨_, rfl⟩
                      have m0 : IntKind.u32.wrap ((b0.toNat : Int) * 16777216) = (X0 : Int) := by rw [IntKind.wrap_u32]; omega
                      have m1 : IntKind.u32.wrap ((b1.toNat : Int) * 65536) = (X1 : Int) := by rw [IntKind.wrap_u32]; omega
                      have m2 : IntKind.u32.wrap ((b2.toNat : Int) * 256) = (X2 : Int) := by rw [IntKind.wrap_u32]; omega
                      have a1 : IntKind.u32.wrap ((X0 : Int) + (X1 : Int)) = (Y1 : Int) := by rw [IntKind.wrap_u32]; omega
                      have a2 : IntKind.u32.wrap ((Y1 : Int) + (X2 : Int)) = (Y2 : Int) := by rw [IntKind.wrap_u32]; omega
                      have a3 : IntKind.u32.wrap ((Y2 : Int) + (b3.toNat : Int)) = (Wd.toNat : Int) := by rw [IntKind.wrap_u32]; omega
                      rw [hWd] at hlow
                      have HLOW := Lib.hid hlow
                      have HWL := Lib.hid hwl
                      clear hlow hwk hwl hown hb0 hb1 hb2 hb3 hWd hWv hX0 hX1 hX2 hY1 hY2 hrw
                      go_wp2
                      go_region_held3 (fun w' => w'.cell? ⟨b, off + (4 * k), none⟩ = some (.int .u8 (b0.toNat : Int)) ∧ w'.cell? ⟨b, off + (4 * k + 1), none⟩ = some (.int .u8 (b1.toNat : Int)) ∧ w'.cell? ⟨b, off + (4 * k + 2), none⟩ = some (.int .u8 (b2.toNat : Int)) ∧ w'.cell? ⟨b, off + (4 * k + 3), none⟩ = some (.int .u8 (b3.toNat : Int)))
                        (first | (exact ⟨k0 _ hb3, k1 _ hb3, k2 _ hb3, k3 _ hb3⟩) | go_keep)
                        ((refine stepW (by rfl) _ _ (by rfl) wr W0 W0.heap.size W0.heap.size A7 c7 wk k HWL.out Wd (by rfl) HO.out (by rfl) (by omega) hb7z (Nat.le_refl _) hb7 ?_; intro A3 c3 w3 hown3 hrw3 hold3 hb3))
                      go_wp2
                      go_roundw
                      case rel => exact ⟨k + 1, A3, c3, by omega, by go_num, rfl, by rw [HLOW.out]; exact hown3, by rw [HLOW.out]; exact hrw3, hb3⟩
                      case measure => simp [RowKit.intOf]; omega
                  · have hhigh := wl_high x k (by omega)
                    rw [hwk] at hhigh
                    as_aux_lemma =>
                      have hnx := next_at wk k hwl
                      obtain ⟨g, rfl, hgl, hcg⟩ := hrw (by omega)
                      obtain ⟨A16, hA16⟩ : ∃ z, wk.getD (k - 16) 0#32 = z := ⟨_, rfl⟩
                      have eN16 := hcg (k - 16) (by omega)
                      rw [wf_get hA16] at eN16
                      rw [hA16] at hnx
                      obtain ⟨A15, hA15⟩ : ∃ z, wk.getD (k - 15) 0#32 = z := ⟨_, rfl⟩
                      have eN15 := hcg (k - 15) (by omega)
                      rw [wf_get hA15] at eN15
                      rw [hA15] at hnx
                      obtain ⟨A7v, hA7v⟩ : ∃ z, wk.getD (k - 7) 0#32 = z := ⟨_, rfl⟩
                      have eN7 := hcg (k - 7) (by omega)
                      rw [wf_get hA7v] at eN7
                      rw [hA7v] at hnx
                      obtain ⟨A2, hA2⟩ : ∃ z, wk.getD (k - 2) 0#32 = z := ⟨_, rfl⟩
                      have eN2 := hcg (k - 2) (by omega)
                      rw [wf_get hA2] at eN2
                      rw [hA2] at hnx
                      obtain ⟨N16, hN16⟩ : ∃ z, k - 16 = z := ⟨_, rfl⟩
                      rw [hN16] at eN16
                      have zN16 : IntKind.i64.wrap ((k : Int) - 16) = (N16 : Int) := by rw [show (k : Int) - 16 = (N16 : Int) by omega]; exact IntWalk.i64_in _ (by omega)
                      have xN16 : ∀ U, (Instr.indexAt 48 (.slice (some ⟨g, 0, none⟩) k c7) (.int .i64 (N16 : Int))).run Tryd.prog U = .ok (.pointer (some ⟨g, N16, none⟩)) U := fun U => by have := ix_slice U _ _ g 0 k c7 (N16 : Int) N16 Tryd.underlying48 (size_u32 U) rfl (by omega); rwa [Nat.zero_add] at this
                      obtain ⟨N15, hN15⟩ : ∃ z, k - 15 = z := ⟨_, rfl⟩
                      rw [hN15] at eN15
                      have zN15 : IntKind.i64.wrap ((k : Int) - 15) = (N15 : Int) := by rw [show (k : Int) - 15 = (N15 : Int) by omega]; exact IntWalk.i64_in _ (by omega)
                      have xN15 : ∀ U, (Instr.indexAt 48 (.slice (some ⟨g, 0, none⟩) k c7) (.int .i64 (N15 : Int))).run Tryd.prog U = .ok (.pointer (some ⟨g, N15, none⟩)) U := fun U => by have := ix_slice U _ _ g 0 k c7 (N15 : Int) N15 Tryd.underlying48 (size_u32 U) rfl (by omega); rwa [Nat.zero_add] at this
                      obtain ⟨N7, hN7⟩ : ∃ z, k - 7 = z := ⟨_, rfl⟩
                      rw [hN7] at eN7
                      have zN7 : IntKind.i64.wrap ((k : Int) - 7) = (N7 : Int) := by rw [show (k : Int) - 7 = (N7 : Int) by omega]; exact IntWalk.i64_in _ (by omega)
                      have xN7 : ∀ U, (Instr.indexAt 48 (.slice (some ⟨g, 0, none⟩) k c7) (.int .i64 (N7 : Int))).run Tryd.prog U = .ok (.pointer (some ⟨g, N7, none⟩)) U := fun U => by have := ix_slice U _ _ g 0 k c7 (N7 : Int) N7 Tryd.underlying48 (size_u32 U) rfl (by omega); rwa [Nat.zero_add] at this
                      obtain ⟨N2, hN2⟩ : ∃ z, k - 2 = z := ⟨_, rfl⟩
                      rw [hN2] at eN2
                      have zN2 : IntKind.i64.wrap ((k : Int) - 2) = (N2 : Int) := by rw [show (k : Int) - 2 = (N2 : Int) by omega]; exact IntWalk.i64_in _ (by omega)
                      have xN2 : ∀ U, (Instr.indexAt 48 (.slice (some ⟨g, 0, none⟩) k c7) (.int .i64 (N2 : Int))).run Tryd.prog U = .ok (.pointer (some ⟨g, N2, none⟩)) U := fun U => by have := ix_slice U _ _ g 0 k c7 (N2 : Int) N2 Tryd.underlying48 (size_u32 U) rfl (by omega); rwa [Nat.zero_add] at this
                      have hs0 : sg0 A15 = rotr A15 7 ^^^ rotr A15 18 ^^^ A15 >>> 3 := rfl
                      have hs1 : sg1 A2 = rotr A2 17 ^^^ rotr A2 19 ^^^ A2 >>> 10 := rfl
                      obtain ⟨R7, hR7⟩ : ∃ R : W32, rotr A15 7 = R := ⟨_, rfl⟩
                      obtain ⟨R18, hR18⟩ : ∃ R : W32, rotr A15 18 = R := ⟨_, rfl⟩
                      obtain ⟨R17, hR17⟩ : ∃ R : W32, rotr A2 17 = R := ⟨_, rfl⟩
                      obtain ⟨R19, hR19⟩ : ∃ R : W32, rotr A2 19 = R := ⟨_, rfl⟩
                      obtain ⟨S3, hS3⟩ : ∃ R : W32, A15 >>> 3 = R := ⟨_, rfl⟩
                      have fS30 := w_shr3 A15
                      rw [hS3] at fS30
                      obtain ⟨S10, hS10⟩ : ∃ R : W32, A2 >>> 10 = R := ⟨_, rfl⟩
                      have fS100 := w_shr10 A2
                      rw [hS10] at fS100
                      obtain ⟨X1, hX1⟩ : ∃ R : W32, R7 ^^^ R18 = R := ⟨_, rfl⟩
                      have fX10 := w_xor R7 R18
                      rw [hX1] at fX10
                      obtain ⟨X2, hX2⟩ : ∃ R : W32, R17 ^^^ R19 = R := ⟨_, rfl⟩
                      have fX20 := w_xor R17 R19
                      rw [hX2] at fX20
                      obtain ⟨X3, hX3⟩ : ∃ R : W32, X1 ^^^ S3 = R := ⟨_, rfl⟩
                      have fX30 := w_xor X1 S3
                      rw [hX3] at fX30
                      obtain ⟨X4, hX4⟩ : ∃ R : W32, X2 ^^^ S10 = R := ⟨_, rfl⟩
                      have fX40 := w_xor X2 S10
                      rw [hX4] at fX40
                      obtain ⟨Y1, hY1⟩ : ∃ R : W32, A16 + X3 = R := ⟨_, rfl⟩
                      have fY10 := w_addw A16 X3
                      rw [hY1] at fY10
                      obtain ⟨Y2, hY2⟩ : ∃ R : W32, Y1 + A7v = R := ⟨_, rfl⟩
                      have fY20 := w_addw Y1 A7v
                      rw [hY2] at fY20
                      obtain ⟨Y3, hY3⟩ : ∃ R : W32, Y2 + X4 = R := ⟨_, rfl⟩
                      have fY30 := w_addw Y2 X4
                      rw [hY3] at fY30
                      have T7 : ∀ W, Calls Tryd.prog 17 #[.int .u32 (A15.toNat : Int), .int .u64 7] W (fun e w' => e = .returned (.int .u32 (R7.toNat : Int)) ∧ w' = W) := fun W => by rw [← hR7]; exact (rturn_any A15 7 W (by decide) (by decide)).mono (fun _ _ h => ⟨h.1, h.2.symm⟩)
                      have T18 : ∀ W, Calls Tryd.prog 17 #[.int .u32 (A15.toNat : Int), .int .u64 18] W (fun e w' => e = .returned (.int .u32 (R18.toNat : Int)) ∧ w' = W) := fun W => by rw [← hR18]; exact (rturn_any A15 18 W (by decide) (by decide)).mono (fun _ _ h => ⟨h.1, h.2.symm⟩)
                      have T17 : ∀ W, Calls Tryd.prog 17 #[.int .u32 (A2.toNat : Int), .int .u64 17] W (fun e w' => e = .returned (.int .u32 (R17.toNat : Int)) ∧ w' = W) := fun W => by rw [← hR17]; exact (rturn_any A2 17 W (by decide) (by decide)).mono (fun _ _ h => ⟨h.1, h.2.symm⟩)
                      have T19 : ∀ W, Calls Tryd.prog 17 #[.int .u32 (A2.toNat : Int), .int .u64 19] W (fun e w' => e = .returned (.int .u32 (R19.toNat : Int)) ∧ w' = W) := fun W => by rw [← hR19]; exact (rturn_any A2 19 W (by decide) (by decide)).mono (fun _ _ h => ⟨h.1, h.2.symm⟩)
                      have hfin : nextW wk = Y3 := by rw [hnx, hs0, hs1, hR7, hR18, hR17, hR19, hS3, hS10, hX1, hX2, hX3, hX4, hY1, hY2, hY3]
                      rw [hfin] at hhigh
                      have HHI := Lib.hid hhigh
                      have HWL := Lib.hid hwl
                      have KM : ∀ V : World, RW V (some ⟨g, 0, none⟩) wk → V.cell? ⟨g, N16, none⟩ = some (.int .u32 (A16.toNat : Int)) ∧ V.cell? ⟨g, N7, none⟩ = some (.int .u32 (A7v.toNat : Int)) := fun V hV => by
                        obtain ⟨g', e, _, hc'⟩ := hV (by omega)
                        cases e
                        have e1 := hc' N16 (by omega)
                        have e2 := hc' N7 (by omega)
                        rw [← hN16, wf_get hA16] at e1
                        rw [← hN7, wf_get hA7v] at e2
                        rw [← hN16, ← hN7]
                        exact ⟨e1, e2⟩
                      clear hfin hhigh hnx hwk hwl hown hs0 hs1 hcg hR7 hR18 hR17 hR19 hS3 hS10 hX1 hX2 hX3 hX4 hY1 hY2 hY3 hA16 hA15 hA7v hA2 hN16 hN15 hN7 hN2
                      go_wp2
                      go_quiet ((first | (go_at_call 17; with_reducible exact Calls.quiet_of_same (T7 _)) | (go_at_call 17; with_reducible exact Calls.quiet_of_same (T18 _))))
                      replace eN16 : (wr.drewN nq).cell? ⟨g, N16, none⟩ = _ := eN16
                      replace eN7 : (wr.drewN nq).cell? ⟨g, N7, none⟩ = _ := eN7
                      replace eN2 : (wr.drewN nq).cell? ⟨g, N2, none⟩ = _ := eN2
                      replace HO : Hid (OwnW (wr.drewN nq) W0.heap.size (.slice (some ⟨g, 0, none⟩) k c7) wk) := HO
                      replace hb7 : Below W0.heap.size W0 (wr.drewN nq) := below_drewN hb7 _
                      replace hb7z : W0.heap.size ≤ (wr.drewN nq).heap.size := hb7z
                      clear eN15 T7 T18 hgl hrw
                      generalize wr.drewN nq = V1 at *
                      go_wp2
                      go_quiet ((first | (go_at_call 17; with_reducible exact Calls.quiet_of_same (T17 _)) | (go_at_call 17; with_reducible exact Calls.quiet_of_same (T19 _))))
                      replace eN16 : (V1.drewN nq).cell? ⟨g, N16, none⟩ = _ := eN16
                      replace eN7 : (V1.drewN nq).cell? ⟨g, N7, none⟩ = _ := eN7
                      replace HO : Hid (OwnW (V1.drewN nq) W0.heap.size (.slice (some ⟨g, 0, none⟩) k c7) wk) := HO
                      replace hb7 : Below W0.heap.size W0 (V1.drewN nq) := below_drewN hb7 _
                      replace hb7z : W0.heap.size ≤ (V1.drewN nq).heap.size := hb7z
                      clear eN2 T17 T19
                      generalize V1.drewN nq = V2 at *
                      go_wp2
                      go_region_held3 (fun w' => w'.cell? ⟨g, N16, none⟩ = some (.int .u32 (A16.toNat : Int)) ∧ w'.cell? ⟨g, N7, none⟩ = some (.int .u32 (A7v.toNat : Int)))
                        (first | (exact KM _ hold3) | go_keep)
                        ((refine stepW (by rfl) _ _ (by rfl) V2 W0 W0.heap.size W0.heap.size (some ⟨g, 0, none⟩) c7 wk k HWL.out Y3 (by rfl) HO.out (by rfl) (by omega) hb7z (Nat.le_refl _) hb7 ?_; intro A3 c3 w3 hown3 hrw3 hold3 hb3))
                      go_wp2
                      go_roundw
                      case rel => exact ⟨k + 1, A3, c3, by omega, by go_num, rfl, by rw [HHI.out]; exact hown3, by rw [HHI.out]; exact hrw3, hb3⟩
                      case measure => simp [RowKit.intOf]; omega
                · have hk64e : k = 64 := by omega
                  have hgek : 64 ≤ k := by omega
                  have hdk : decide ((k : Int) < 64) = false := by simpa using (by omega : (64 : Int) ≤ k)
                  have HWS : ∀ u : List W32, u = wk → sched x = u := fun u hu => by rw [hu, ← hwk, hk64e]; rfl
                  have HWL := Lib.hid hwl
                  have HKE := Lib.hid hk64e
                  have hk64' : k ≤ 64 := hk
                  clear hwk hwl hown HO HCS hk64e hk64
                  obtain ⟨sa, sb, sc, sd, se, sf, sg, sh⟩ := st
                  have hs8 := hst hs rfl
                  have hsl8 : hs.length = 8 := by rw [← hs8]; rfl
                  have hrh2 := hrh.below (Nat.le_refl _) hb7
                  have hrk2 := hrk.below (Nat.le_refl _) hb7
                  obtain ⟨gh, rfl, hghl, hch⟩ := hrh2 (by rw [hsl8]; decide)
                  have d0 : wr.cell? ⟨gh, 0, none⟩ = some (.int .u32 (sa.toNat : Int)) := by rw [hch 0 (by rw [hsl8]; decide), ← hs8]; rfl
                  have x0 : ∀ U, (Instr.indexAt 48 (.slice (some ⟨gh, 0, none⟩) 8 ch) (.int .i64 0)).run Tryd.prog U = .ok (.pointer (some ⟨gh, 0, none⟩)) U := fun U => ix_slice U _ _ gh 0 8 ch 0 0 Tryd.underlying48 (size_u32 U) rfl (by decide)
                  have d1 : wr.cell? ⟨gh, 1, none⟩ = some (.int .u32 (sb.toNat : Int)) := by rw [hch 1 (by rw [hsl8]; decide), ← hs8]; rfl
                  have x1 : ∀ U, (Instr.indexAt 48 (.slice (some ⟨gh, 0, none⟩) 8 ch) (.int .i64 1)).run Tryd.prog U = .ok (.pointer (some ⟨gh, 1, none⟩)) U := fun U => ix_slice U _ _ gh 0 8 ch 1 1 Tryd.underlying48 (size_u32 U) rfl (by decide)
                  have d2 : wr.cell? ⟨gh, 2, none⟩ = some (.int .u32 (sc.toNat : Int)) := by rw [hch 2 (by rw [hsl8]; decide), ← hs8]; rfl
                  have x2 : ∀ U, (Instr.indexAt 48 (.slice (some ⟨gh, 0, none⟩) 8 ch) (.int .i64 2)).run Tryd.prog U = .ok (.pointer (some ⟨gh, 2, none⟩)) U := fun U => ix_slice U _ _ gh 0 8 ch 2 2 Tryd.underlying48 (size_u32 U) rfl (by decide)
                  have d3 : wr.cell? ⟨gh, 3, none⟩ = some (.int .u32 (sd.toNat : Int)) := by rw [hch 3 (by rw [hsl8]; decide), ← hs8]; rfl
                  have x3 : ∀ U, (Instr.indexAt 48 (.slice (some ⟨gh, 0, none⟩) 8 ch) (.int .i64 3)).run Tryd.prog U = .ok (.pointer (some ⟨gh, 3, none⟩)) U := fun U => ix_slice U _ _ gh 0 8 ch 3 3 Tryd.underlying48 (size_u32 U) rfl (by decide)
                  have d4 : wr.cell? ⟨gh, 4, none⟩ = some (.int .u32 (se.toNat : Int)) := by rw [hch 4 (by rw [hsl8]; decide), ← hs8]; rfl
                  have x4 : ∀ U, (Instr.indexAt 48 (.slice (some ⟨gh, 0, none⟩) 8 ch) (.int .i64 4)).run Tryd.prog U = .ok (.pointer (some ⟨gh, 4, none⟩)) U := fun U => ix_slice U _ _ gh 0 8 ch 4 4 Tryd.underlying48 (size_u32 U) rfl (by decide)
                  have d5 : wr.cell? ⟨gh, 5, none⟩ = some (.int .u32 (sf.toNat : Int)) := by rw [hch 5 (by rw [hsl8]; decide), ← hs8]; rfl
                  have x5 : ∀ U, (Instr.indexAt 48 (.slice (some ⟨gh, 0, none⟩) 8 ch) (.int .i64 5)).run Tryd.prog U = .ok (.pointer (some ⟨gh, 5, none⟩)) U := fun U => ix_slice U _ _ gh 0 8 ch 5 5 Tryd.underlying48 (size_u32 U) rfl (by decide)
                  have d6 : wr.cell? ⟨gh, 6, none⟩ = some (.int .u32 (sg.toNat : Int)) := by rw [hch 6 (by rw [hsl8]; decide), ← hs8]; rfl
                  have x6 : ∀ U, (Instr.indexAt 48 (.slice (some ⟨gh, 0, none⟩) 8 ch) (.int .i64 6)).run Tryd.prog U = .ok (.pointer (some ⟨gh, 6, none⟩)) U := fun U => ix_slice U _ _ gh 0 8 ch 6 6 Tryd.underlying48 (size_u32 U) rfl (by decide)
                  have d7 : wr.cell? ⟨gh, 7, none⟩ = some (.int .u32 (sh.toNat : Int)) := by rw [hch 7 (by rw [hsl8]; decide), ← hs8]; rfl
                  have x7 : ∀ U, (Instr.indexAt 48 (.slice (some ⟨gh, 0, none⟩) 8 ch) (.int .i64 7)).run Tryd.prog U = .ok (.pointer (some ⟨gh, 7, none⟩)) U := fun U => ix_slice U _ _ gh 0 8 ch 7 7 Tryd.underlying48 (size_u32 U) rfl (by decide)
                  have HHS : ∀ j, j < 8 → ∀ V, Below wr.heap.size wr V → V.cell? ⟨gh, j, none⟩ = some (wf (lstOf ⟨sa, sb, sc, sd, se, sf, sg, sh⟩) j) := fun j hj V hV => by rw [hV.cell (p := ⟨gh, j, none⟩) hghl, hch j (by rw [hsl8]; exact hj), hs8]
                  have hmz := hb7z
                  clear hs8 hsl8 hch hst hrh hrk
                  go_wp2
                  go_quiet (fail)
                  have hrw2 : RW (wr.drewN nq) A7 wk := hrw
                  replace hrk2 : RW (wr.drewN nq) Ak KT := hrk2
                  have hHS2 : ∀ j, j < 8 → ∀ V, Below (wr.drewN nq).heap.size (wr.drewN nq) V → V.cell? ⟨gh, j, none⟩ = some (wf (lstOf ⟨sa, sb, sc, sd, se, sf, sg, sh⟩) j) := fun j hj V hV => HHS j hj V ⟨hV.os, hV.tape, hV.output, hV.size, hV.block⟩
                  have hb7' : Below W0.heap.size W0 (wr.drewN nq) := below_drewN hb7 _
                  have hmz' : W0.heap.size ≤ (wr.drewN nq).heap.size := hmz
                  clear d0 d1 d2 d3 d4 d5 d6 d7 hrw HHS hb7 hmz hb7z hghl
                  generalize wr.drewN nq = W2 at *
                  go_wp2
                  go_loopw [11, 12, 13, 14, 15, 16, 17, 18, 19] (fun ta tb tc td te tf tg th i wr => ∃ (t : Nat) (a b c d e f g h : W32), t ≤ 64 ∧ i = .int .i64 t ∧ (∀ u : St, u = ⟨a, b, c, d, e, f, g, h⟩ → rnds K0 wk t ⟨sa, sb, sc, sd, se, sf, sg, sh⟩ = u) ∧ ta = .int .u32 (a.toNat : Int) ∧ tb = .int .u32 (b.toNat : Int) ∧ tc = .int .u32 (c.toNat : Int) ∧ td = .int .u32 (d.toNat : Int) ∧ te = .int .u32 (e.toNat : Int) ∧ tf = .int .u32 (f.toNat : Int) ∧ tg = .int .u32 (g.toNat : Int) ∧ th = .int .u32 (h.toNat : Int) ∧ Below W2.heap.size W2 wr) (fun _ _ _ _ _ _ _ _ i _ => 64 - (RowKit.intOf i).toNat)
                  case atStart => exact ⟨0, sa, sb, sc, sd, se, sf, sg, sh, by omega, rfl, fun u hu => by rw [hu]; rfl, rfl, rfl, rfl, rfl, rfl, rfl, rfl, rfl, Below.refl _ _⟩
                  case round =>
                    obtain ⟨t, a, b, c, d, e, f, g, h, ht, rfl, hrn, rfl, rfl, rfl, rfl, rfl, rfl, rfl, rfl, hbt⟩ := hrel
                    by_cases htl : t < 64
                    · as_aux_lemma =>
                        obtain ⟨g7, rfl, hg7l, hc7⟩ := (hrw2.below (Nat.le_refl _) hbt) (by rw [HWL.out]; omega)
                        obtain ⟨gk, rfl, hgkl, hck⟩ := (hrk2.below (Nat.le_refl _) hbt) (by rw [HKL.out]; decide)
                        have eW := hc7 t (by rw [HWL.out]; omega)
                        have eK := hck t (by rw [HKL.out]; exact htl)
                        obtain ⟨kk, hkk⟩ : ∃ z, KT.getD t 0#32 = z := ⟨_, rfl⟩
                        obtain ⟨wd, hwd⟩ : ∃ z, wk.getD t 0#32 = z := ⟨_, rfl⟩
                        rw [wf_get hwd] at eW
                        rw [wf_get hkk] at eK
                        have xW : ∀ U, (Instr.indexAt 48 (.slice (some ⟨g7, 0, none⟩) k c7) (.int .i64 (t : Int))).run Tryd.prog U = .ok (.pointer (some ⟨g7, t, none⟩)) U := fun U => by have := ix_slice U _ _ g7 0 k c7 (t : Int) t Tryd.underlying48 (size_u32 U) rfl (by omega); rwa [Nat.zero_add] at this
                        have xK : ∀ U, (Instr.indexAt 48 (.slice (some ⟨gk, 0, none⟩) 64 ck) (.int .i64 (t : Int))).run Tryd.prog U = .ok (.pointer (some ⟨gk, t, none⟩)) U := fun U => by have := ix_slice U _ _ gk 0 64 ck (t : Int) t Tryd.underlying48 (size_u32 U) rfl htl; rwa [Nat.zero_add] at this
                        obtain ⟨AE, hAE⟩ : ∃ R : W32, e &&& f = R := ⟨_, rfl⟩
                        have fAE0 := w_and e f
                        rw [hAE] at fAE0
                        obtain ⟨NE, hNE⟩ : ∃ R : W32, ~~~e = R := ⟨_, rfl⟩
                        have fNE0 := w_subw e
                        rw [hNE] at fNE0
                        obtain ⟨AG, hAG⟩ : ∃ R : W32, NE &&& g = R := ⟨_, rfl⟩
                        have fAG0 := w_and NE g
                        rw [hAG] at fAG0
                        obtain ⟨CH, hCH⟩ : ∃ R : W32, AE ||| AG = R := ⟨_, rfl⟩
                        have fCH0 := w_or AE AG
                        rw [hCH] at fCH0
                        obtain ⟨AB, hAB⟩ : ∃ R : W32, a &&& b = R := ⟨_, rfl⟩
                        have fAB0 := w_and a b
                        rw [hAB] at fAB0
                        obtain ⟨AC, hAC⟩ : ∃ R : W32, a &&& c = R := ⟨_, rfl⟩
                        have fAC0 := w_and a c
                        rw [hAC] at fAC0
                        obtain ⟨M1, hM1⟩ : ∃ R : W32, AB ||| AC = R := ⟨_, rfl⟩
                        have fM10 := w_or AB AC
                        rw [hM1] at fM10
                        obtain ⟨BC, hBC⟩ : ∃ R : W32, b &&& c = R := ⟨_, rfl⟩
                        have fBC0 := w_and b c
                        rw [hBC] at fBC0
                        obtain ⟨MJ, hMJ⟩ : ∃ R : W32, M1 ||| BC = R := ⟨_, rfl⟩
                        have fMJ0 := w_or M1 BC
                        rw [hMJ] at fMJ0
                        obtain ⟨R6, hR6⟩ : ∃ R : W32, rotr e 6 = R := ⟨_, rfl⟩
                        obtain ⟨R11, hR11⟩ : ∃ R : W32, rotr e 11 = R := ⟨_, rfl⟩
                        obtain ⟨R25, hR25⟩ : ∃ R : W32, rotr e 25 = R := ⟨_, rfl⟩
                        obtain ⟨R2, hR2⟩ : ∃ R : W32, rotr a 2 = R := ⟨_, rfl⟩
                        obtain ⟨R13, hR13⟩ : ∃ R : W32, rotr a 13 = R := ⟨_, rfl⟩
                        obtain ⟨R22, hR22⟩ : ∃ R : W32, rotr a 22 = R := ⟨_, rfl⟩
                        obtain ⟨X1, hX1⟩ : ∃ R : W32, R6 ^^^ R11 = R := ⟨_, rfl⟩
                        have fX10 := w_xor R6 R11
                        rw [hX1] at fX10
                        obtain ⟨SE, hSE⟩ : ∃ R : W32, X1 ^^^ R25 = R := ⟨_, rfl⟩
                        have fSE0 := w_xor X1 R25
                        rw [hSE] at fSE0
                        obtain ⟨X2, hX2⟩ : ∃ R : W32, R2 ^^^ R13 = R := ⟨_, rfl⟩
                        have fX20 := w_xor R2 R13
                        rw [hX2] at fX20
                        obtain ⟨SA, hSA⟩ : ∃ R : W32, X2 ^^^ R22 = R := ⟨_, rfl⟩
                        have fSA0 := w_xor X2 R22
                        rw [hSA] at fSA0
                        obtain ⟨L1, hL1⟩ : ∃ R : W32, h + SE = R := ⟨_, rfl⟩
                        have fL10 := w_addw h SE
                        rw [hL1] at fL10
                        have fL11 := w_add h SE
                        rw [hL1] at fL11
                        obtain ⟨L2, hL2⟩ : ∃ R : W32, L1 + CH = R := ⟨_, rfl⟩
                        have fL20 := w_addw L1 CH
                        rw [hL2] at fL20
                        have fL21 := w_add L1 CH
                        rw [hL2] at fL21
                        obtain ⟨L3, hL3⟩ : ∃ R : W32, L2 + kk = R := ⟨_, rfl⟩
                        have fL30 := w_addw L2 kk
                        rw [hL3] at fL30
                        have fL31 := w_add L2 kk
                        rw [hL3] at fL31
                        obtain ⟨LT, hLT⟩ : ∃ R : W32, L3 + wd = R := ⟨_, rfl⟩
                        have fLT0 := w_addw L3 wd
                        rw [hLT] at fLT0
                        have fLT1 := w_add L3 wd
                        rw [hLT] at fLT1
                        obtain ⟨T2, hT2⟩ : ∃ R : W32, SA + MJ = R := ⟨_, rfl⟩
                        have fT20 := w_addw SA MJ
                        rw [hT2] at fT20
                        have fT21 := w_add SA MJ
                        rw [hT2] at fT21
                        obtain ⟨NA, hNA⟩ : ∃ R : W32, LT + T2 = R := ⟨_, rfl⟩
                        have fNA0 := w_addw LT T2
                        rw [hNA] at fNA0
                        have fNA1 := w_add LT T2
                        rw [hNA] at fNA1
                        obtain ⟨ND, hND⟩ : ∃ R : W32, d + LT = R := ⟨_, rfl⟩
                        have fND0 := w_addw d LT
                        rw [hND] at fND0
                        have fND1 := w_add d LT
                        rw [hND] at fND1
                        have T6 : ∀ W, Calls Tryd.prog 17 #[.int .u32 (e.toNat : Int), .int .u64 6] W (fun e w' => e = .returned (.int .u32 (R6.toNat : Int)) ∧ w' = W) := fun W => by rw [← hR6]; exact (rturn_any e 6 W (by decide) (by decide)).mono (fun _ _ h => ⟨h.1, h.2.symm⟩)
                        have T11 : ∀ W, Calls Tryd.prog 17 #[.int .u32 (e.toNat : Int), .int .u64 11] W (fun e w' => e = .returned (.int .u32 (R11.toNat : Int)) ∧ w' = W) := fun W => by rw [← hR11]; exact (rturn_any e 11 W (by decide) (by decide)).mono (fun _ _ h => ⟨h.1, h.2.symm⟩)
                        have T25 : ∀ W, Calls Tryd.prog 17 #[.int .u32 (e.toNat : Int), .int .u64 25] W (fun e w' => e = .returned (.int .u32 (R25.toNat : Int)) ∧ w' = W) := fun W => by rw [← hR25]; exact (rturn_any e 25 W (by decide) (by decide)).mono (fun _ _ h => ⟨h.1, h.2.symm⟩)
                        have T2 : ∀ W, Calls Tryd.prog 17 #[.int .u32 (a.toNat : Int), .int .u64 2] W (fun e w' => e = .returned (.int .u32 (R2.toNat : Int)) ∧ w' = W) := fun W => by rw [← hR2]; exact (rturn_any a 2 W (by decide) (by decide)).mono (fun _ _ h => ⟨h.1, h.2.symm⟩)
                        have T13 : ∀ W, Calls Tryd.prog 17 #[.int .u32 (a.toNat : Int), .int .u64 13] W (fun e w' => e = .returned (.int .u32 (R13.toNat : Int)) ∧ w' = W) := fun W => by rw [← hR13]; exact (rturn_any a 13 W (by decide) (by decide)).mono (fun _ _ h => ⟨h.1, h.2.symm⟩)
                        have T22 : ∀ W, Calls Tryd.prog 17 #[.int .u32 (a.toNat : Int), .int .u64 22] W (fun e w' => e = .returned (.int .u32 (R22.toNat : Int)) ∧ w' = W) := fun W => by rw [← hR22]; exact (rturn_any a 22 W (by decide) (by decide)).mono (fun _ _ h => ⟨h.1, h.2.symm⟩)
                        have hstep := hrn _ rfl
                        have HST : ∀ u : St, u = ⟨NA, a, b, c, ND, e, f, g⟩ → rnds K0 wk (t + 1) ⟨sa, sb, sc, sd, se, sf, sg, sh⟩ = u := fun u hu => by
                          rw [hu, show rnds K0 wk (t + 1) ⟨sa, sb, sc, sd, se, sf, sg, sh⟩ = rnd (rnds K0 wk t ⟨sa, sb, sc, sd, se, sf, sg, sh⟩) (K0.getD t 0#32) (wk.getD t 0#32) from rfl, hstep, HKT KT rfl, hkk, hwd]
                          rw [rnd_ref, hR6, hR11, hR25, hX1, hSE, hAE, hNE, hAG, hCH, hR2, hR13, hR22, hX2, hSA, hAB, hAC, hM1, hBC, hMJ, hL1, hL2, hL3, hLT, hT2, hNA, hND]
                        clear hstep hrn hc7 hck hkk hwd hg7l hgkl hAE hNE hAG hCH hAB hAC hM1 hBC hMJ hR6 hR11 hR25 hR2 hR13 hR22 hX1 hSE hX2 hSA hL1 hL2 hL3 hLT hT2 hNA hND
                        go_wp2
                        go_quiet ((first | (go_at_call 17; with_reducible exact Calls.quiet_of_same (T6 _)) | (go_at_call 17; with_reducible exact Calls.quiet_of_same (T11 _)) | (go_at_call 17; with_reducible exact Calls.quiet_of_same (T25 _))))
                        have hbq : Below W2.heap.size W2 (wr.drewN nq) := below_drewN hbt _
                        clear hbt eW eK
                        generalize wr.drewN nq = V4 at *
                        go_wp2_with (first | (go_at_call 17; (with_reducible refine (T2 _).mono ?_); rintro e w' ⟨rfl, rfl⟩) | (go_at_call 17; (with_reducible refine (T13 _).mono ?_); rintro e w' ⟨rfl, rfl⟩) | (go_at_call 17; (with_reducible refine (T22 _).mono ?_); rintro e w' ⟨rfl, rfl⟩))
                        go_roundw
                        case rel => exact ⟨t + 1, NA, a, b, c, ND, e, f, g, by omega, by go_num, HST, rfl, rfl, rfl, rfl, rfl, rfl, rfl, rfl, hbq⟩
                        case measure => simp [RowKit.intOf]; omega
                    · have ht64 : t = 64 := by omega
                      have hend := hrn _ rfl
                      rw [ht64] at hend
                      have hnew := hcmp wk (HWS wk rfl).symm (addSt ⟨sa, sb, sc, sd, se, sf, sg, sh⟩ ⟨a, b, c, d, e, f, g, h⟩) (by rw [hend])
                      have hsm3 := hsm2 (addSt ⟨sa, sb, sc, sd, se, sf, sg, sh⟩ ⟨a, b, c, d, e, f, g, h⟩) hnew.symm
                      have hge : 64 ≤ t := by omega
                      have hdt : decide ((t : Int) < 64) = false := by simpa using (by omega : (64 : Int) ≤ t)
                      have e0 := hHS2 0 (by decide) wr hbt
                      rw [show wf (lstOf ⟨sa, sb, sc, sd, se, sf, sg, sh⟩) 0 = .int .u32 (sa.toNat : Int) from rfl] at e0
                      obtain ⟨na, hna⟩ : ∃ R : W32, sa + a = R := ⟨_, rfl⟩
                      have q0 := w_addw sa a
                      rw [hna] at q0
                      have e1 := hHS2 1 (by decide) wr hbt
                      rw [show wf (lstOf ⟨sa, sb, sc, sd, se, sf, sg, sh⟩) 1 = .int .u32 (sb.toNat : Int) from rfl] at e1
                      obtain ⟨nb, hnb⟩ : ∃ R : W32, sb + b = R := ⟨_, rfl⟩
                      have q1 := w_addw sb b
                      rw [hnb] at q1
                      have e2 := hHS2 2 (by decide) wr hbt
                      rw [show wf (lstOf ⟨sa, sb, sc, sd, se, sf, sg, sh⟩) 2 = .int .u32 (sc.toNat : Int) from rfl] at e2
                      obtain ⟨nc, hnc⟩ : ∃ R : W32, sc + c = R := ⟨_, rfl⟩
                      have q2 := w_addw sc c
                      rw [hnc] at q2
                      have e3 := hHS2 3 (by decide) wr hbt
                      rw [show wf (lstOf ⟨sa, sb, sc, sd, se, sf, sg, sh⟩) 3 = .int .u32 (sd.toNat : Int) from rfl] at e3
                      obtain ⟨nd, hnd⟩ : ∃ R : W32, sd + d = R := ⟨_, rfl⟩
                      have q3 := w_addw sd d
                      rw [hnd] at q3
                      have e4 := hHS2 4 (by decide) wr hbt
                      rw [show wf (lstOf ⟨sa, sb, sc, sd, se, sf, sg, sh⟩) 4 = .int .u32 (se.toNat : Int) from rfl] at e4
                      obtain ⟨ne, hne⟩ : ∃ R : W32, se + e = R := ⟨_, rfl⟩
                      have q4 := w_addw se e
                      rw [hne] at q4
                      have e5 := hHS2 5 (by decide) wr hbt
                      rw [show wf (lstOf ⟨sa, sb, sc, sd, se, sf, sg, sh⟩) 5 = .int .u32 (sf.toNat : Int) from rfl] at e5
                      obtain ⟨nf, hnf⟩ : ∃ R : W32, sf + f = R := ⟨_, rfl⟩
                      have q5 := w_addw sf f
                      rw [hnf] at q5
                      have e6 := hHS2 6 (by decide) wr hbt
                      rw [show wf (lstOf ⟨sa, sb, sc, sd, se, sf, sg, sh⟩) 6 = .int .u32 (sg.toNat : Int) from rfl] at e6
                      obtain ⟨ng, hng⟩ : ∃ R : W32, sg + g = R := ⟨_, rfl⟩
                      have q6 := w_addw sg g
                      rw [hng] at q6
                      have e7 := hHS2 7 (by decide) wr hbt
                      rw [show wf (lstOf ⟨sa, sb, sc, sd, se, sf, sg, sh⟩) 7 = .int .u32 (sh.toNat : Int) from rfl] at e7
                      obtain ⟨nh, hnh⟩ : ∃ R : W32, sh + h = R := ⟨_, rfl⟩
                      have q7 := w_addw sh h
                      rw [hnh] at q7
                      have HSM : ∀ u : St, u = ⟨na, nb, nc, nd, ne, nf, ng, nh⟩ → SumIs l u q' (r.drop 64) := fun u hu => by rw [hu, ← hna, ← hnb, ← hnc, ← hnd, ← hne, ← hnf, ← hng, ← hnh]; exact hsm3
                      clear hsm3 hnew hend hrn ht64
                      have KK : ∀ V : World, Below wr.heap.size wr V → V.cell? ⟨gh, 0, none⟩ = some (.int .u32 (sa.toNat : Int)) ∧ V.cell? ⟨gh, 1, none⟩ = some (.int .u32 (sb.toNat : Int)) ∧ V.cell? ⟨gh, 2, none⟩ = some (.int .u32 (sc.toNat : Int)) ∧ V.cell? ⟨gh, 3, none⟩ = some (.int .u32 (sd.toNat : Int)) ∧ V.cell? ⟨gh, 4, none⟩ = some (.int .u32 (se.toNat : Int)) ∧ V.cell? ⟨gh, 5, none⟩ = some (.int .u32 (sf.toNat : Int)) ∧ V.cell? ⟨gh, 6, none⟩ = some (.int .u32 (sg.toNat : Int)) ∧ V.cell? ⟨gh, 7, none⟩ = some (.int .u32 (sh.toNat : Int)) := fun V hV => ⟨hHS2 0 (by decide) V (hbt.trans (hV.mono hbt.size)), hHS2 1 (by decide) V (hbt.trans (hV.mono hbt.size)), hHS2 2 (by decide) V (hbt.trans (hV.mono hbt.size)), hHS2 3 (by decide) V (hbt.trans (hV.mono hbt.size)), hHS2 4 (by decide) V (hbt.trans (hV.mono hbt.size)), hHS2 5 (by decide) V (hbt.trans (hV.mono hbt.size)), hHS2 6 (by decide) V (hbt.trans (hV.mono hbt.size)), hHS2 7 (by decide) V (hbt.trans (hV.mono hbt.size))⟩
                      have hbz2 := hbt.size
                      clear e0 q0 e1 q1 e2 q2 e3 q3 e4 q4 e5 q5 e6 q6 e7 q7
                      go_wp2
                      refine regS (by kernel_rfl) (by simp) (by rfl) (by rfl) (by rfl) (by rfl) (by rfl) (by rfl) (by rfl) (by rfl) (by rfl) hna hnb hnc hnd hne hnf hng hnh KK ?_
                      intro V6 hrw6 hb6
                      simp only [Act.put, List.setIfInBounds_toArray, List.set_cons_zero, List.set_cons_succ]
                      replace hb6 := hbt.trans (hb6.mono hbz2)
                      clear KK hna hnb hnc hnd hne hnf hng hnh
                      have hbW6 : Below W0.heap.size W0 V6 := hb7'.trans (hb6.mono hmz')
                      have hrb6 := RB.below hrb' (Nat.le_refl _) hbW6
                      have hrk6 := hrk2.below (Nat.le_refl _) hb6
                      go_wp2
                      go_roundw
                      case rel => exact ⟨q', r.drop 64, A', cc - 64, some ⟨wr.heap.size, 0, none⟩, 8, ⟨na, nb, nc, nd, ne, nf, ng, nh⟩, lstOf ⟨na, nb, nc, nd, ne, nf, ng, nh⟩, by omega, by rw [HDL.out], HQ'.out, by rw [HDL.out]; omega, by rw [HDL.out]; omega, hrb6, rfl, hrw6, fun u hu => hu.symm, HSM, hrk6, hbr.trans (hbW6.mono hbz)⟩
                      case measure => simp; omega
        · rw [show (((s + 1 : Nat) : Int) - 1) = (s : Int) by omega]
          have hs7 : s ≤ 7 := by omega
          obtain ⟨j8, hj8⟩ : ∃ q, 8 - (s + 1) = q := ⟨_, rfl⟩
          rw [hj8] at hown ⊢
          have hnx := be8_snoc (8 * n) j8
          rw [show 56 - 8 * j8 = 8 * s by omega] at hnx
          replace hnx := hnx.resolve_right (by omega)
          obtain ⟨y, hy⟩ : ∃ q, UInt8.ofNat (8 * n / 2 ^ (8 * s)) = q := ⟨_, rfl⟩
          rw [hy] at hnx
          have hyv : (8 * (n : Int)) / 2 ^ (8 * s) % 256 = (y.toNat : Int) := by
            rw [← hy, u8_toNat, Int.natCast_ediv, Int.natCast_mul, Int.natCast_pow]
            rfl
          obtain ⟨T, hT⟩ : ∃ q, M + j8 = q := ⟨_, rfl⟩
          have hTl : (P0 ++ (be8 (8 * n)).take j8).length = T := by rw [List.length_append, HPL.out, List.length_take, be8_length]; omega
          rw [hT] at hown ⊢
          have HO := Lib.hid hown
          have HNX := Lib.hid (show (P0 ++ (be8 (8 * n)).take j8) ++ [y] = P0 ++ (be8 (8 * n)).take (8 - s) by rw [List.append_assoc, hnx, show j8 + 1 = 8 - s by omega])
          have HTT := Lib.hid (show M + (8 - s) = T + 1 by omega)
          have HTL := Lib.hid hTl
          have hTb : T ≤ 4200 := by omega
          obtain ⟨Pj, hPj⟩ : ∃ q, P0 ++ (be8 (8 * n)).take j8 = q := ⟨_, rfl⟩
          rw [hPj] at HO HNX HTL
          clear hown hnx hy hT hTl hPj hj8
          go_wp2_with (at_builtin; refine appB rfl _ _ rfl wr w w.heap.size w.heap.size _ Pj [y] T 1 HTL.out rfl _ rfl rfl (by exact HO.out) rfl (by omega) (by omega) (Nat.le_refl _) hbr ?_)
          intro A3 c3 w3 hown3 _ _ hb3
          go_wp2
          go_roundw
          case rel => exact ⟨s, A3, c3, by omega, rfl, by rw [HTT.out], by rw [HTT.out, ← HNX.out]; exact hown3, hb3⟩
          case measure => simp [RowKit.intOf]
end Go.Proofs.YtkgmkblcofedbaaDoor
