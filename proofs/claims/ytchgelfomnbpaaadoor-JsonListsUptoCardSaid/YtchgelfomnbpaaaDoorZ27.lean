/-
  The program's test of a value of JSON: may it be written? Conditions: texts of modest length; the library's two tables hold what they are laid with.
-/
import Derived.Test.YtchgelfomnbpaaaDoorZ25
import Derived.Test.YtchgelfomnbpaaaDoorZ26
import Derived.Test.YtchgelfomnbpaaaDoorZ11
import Derived.Test.YtchgelfomnbpaaaDoorZ19
import Derived.Test.YtchgelfomnbpaaaDoorZ14
namespace Go.Proofs.YtchgelfomnbpaaaDoor
open Go.RowKit
open Go.Lib

abbrev agJ (k : Int) (s : ByteArray) (nA : Option Addr) (nn nc : Nat) (lA : Option Addr) (n lc : Nat) : Value := .agg #[.int .i64 k, .string s, .slice nA nn nc, .slice lA n lc]
/-- The box of a value. -/
theorem box4 (k : Int) (s : ByteArray) (nA : Option Addr) (nn nc : Nat) (lA : Option Addr) (n lc : Nat) (w W : World) (hb : Below (w.heap.size + 1) (w.alloc (.cells #[.int .i64 k, .string s, .slice nA nn nc, .slice lA n lc] TJ)) W) :
    W.cell? ⟨w.heap.size, 0, none⟩ = some (.int .i64 k) ∧ W.cell? ⟨w.heap.size, 1, none⟩ = some (.string s) ∧ W.cell? ⟨w.heap.size, 2, none⟩ = some (.slice nA nn nc) ∧ W.cell? ⟨w.heap.size, 3, none⟩ = some (.slice lA n lc) := by
  have h := Blk.new (.cells #[.int .i64 k, .string s, .slice nA nn nc, .slice lA n lc] TJ (0, 0)) w
  have h2 : Blk w.heap.size (.cells #[.int .i64 k, .string s, .slice nA nn nc, .slice lA n lc] TJ (0, 0)) W := (Off.of_below (by simpa using hb)).blk h (fun h => h)
  exact ⟨h2.cell 0, h2.cell 1, h2.cell 2, h2.cell 3⟩
theorem box_below (w W : World) (o : Obj) (hb : Below (w.heap.size + 1) (w.alloc o) W) : Below w.heap.size w W := ((Below.refl _ _).alloc (Nat.le_refl _) _).trans (hb.mono (Nat.le_succ _))
set_option maxRecDepth 100000 in
set_option maxHeartbeats 1000000 in
theorem psingle_any {T : Nat → Prop} {k : Int} {t : Bt} {ns : List Bt} {l : List JV} {x : Value} {w : World} (hJ : JR w T (.mk k t ns l) x) :
    Calls Tryd.prog 39 #[x] w fun e w' => e = .returned (.bool (singleB ns l)) ∧ Below w.heap.size w w' := by
  rw [JR] at hJ
  obtain ⟨nA, nc, lA, lc, rfl, _, _⟩ := hJ
  obtain ⟨nn, hnn⟩ : ∃ n, ns.length = n := ⟨_, rfl⟩
  obtain ⟨n, hn⟩ : ∃ n, l.length = n := ⟨_, rfl⟩
  obtain ⟨R, hR⟩ : ∃ b, singleB ns l = b := ⟨_, rfl⟩
  rw [hR]
  unfold singleB at hR
  rw [hnn, hn] at hR ⊢
  have HB : Hid (Below w.heap.size w (w.alloc (.cells #[.int .i64 k, .string (bs t), .slice nA nn nc, .slice lA n lc] TJ))) := Lib.hid ((Below.refl _ _).alloc (Nat.le_refl _) _)
  clear hnn hn
  by_cases h1 : nn = 0
  · by_cases h2 : n = 0
    · subst h1 h2
      have HR : Hid (R = true) := Lib.hid (by rw [← hR]; rfl)
      clear hR
      go_enter Tryd.func39, Tryd.ntmps39
      go_wp2
      go_ret
      exact ⟨by rw [HR.out]; rfl, HB.out⟩
    · subst h1
      have HR : Hid (R = false) := Lib.hid (by rw [← hR]; simp [h2])
      have e2 : ((n : Int) == 0) = false := by rw [beq_eq_false_iff_ne]; omega
      have e3 : ¬ (n : Int) = 0 := by omega
      clear hR
      go_enter Tryd.func39, Tryd.ntmps39
      go_wp2
      go_ret
      exact ⟨by rw [HR.out]; rfl, HB.out⟩
  · have HR : Hid (R = false) := Lib.hid (by rw [← hR]; simp [h1])
    have e2 : ((nn : Int) == 0) = false := by rw [beq_eq_false_iff_ne]; omega
    clear hR
    go_enter Tryd.func39, Tryd.ntmps39
    go_wp2
    go_ret
    exact ⟨by rw [HR.out]; rfl, HB.out⟩
theorem alls_take : ∀ (ns : List Bt) (j : Nat) (h : j < ns.length), (ns.take (j + 1)).all validD = ((ns.take j).all validD && validD ns[j])
  | v :: l, 0, _ => by simp
  | v :: l, j + 1, h => by
    have := alls_take l j (by simpa using h)
    rw [List.take_succ_cons, List.take_succ_cons, List.all_cons, List.all_cons, this]
    simp only [List.getElem_cons_succ, Bool.and_assoc]
theorem alls_some {ns : List Bt} {j : Nat} (h : j < ns.length) (hr : validD ns[j] = false) : ns.all validD = false := by
  rw [List.all_eq_false]
  exact ⟨ns[j], List.getElem_mem h, by rw [hr]; decide⟩
set_option maxRecDepth 100000 in
set_option maxHeartbeats 1000000 in
theorem ptexts_any {T : Nat → Prop} {ns : List Bt} {nA : Option Addr} {nc n : Nat} {w : World} (hR : RTx w T nA ns) (hn : ns.length = n) (hn9 : n ≤ 1000000000) (hsm : ∀ j (h : j < ns.length), ns[j].length ≤ 2000000) (hT : Tabs w) :
    Calls Tryd.prog 43 #[.slice nA n nc] w fun e w' => e = .returned (.bool (ns.all validD)) ∧ Below w.heap.size w w' := by
  have HN := Lib.hid hn
  have HR := Lib.hid hR
  have HSM := Lib.hid hsm
  have HT := Lib.hid hT
  clear hn hR hsm hT
  go_enter Tryd.func43, Tryd.ntmps43
  go_wp2
  go_loopw [7] (fun i wr => ∃ j : Nat, j ≤ n ∧ i = .int .i64 j ∧ Hid ((ns.take j).all validD = true) ∧ Hid (Below w.heap.size w wr)) (fun i _ => n - (RowKit.intOf i).toNat)
  case atStart => exact ⟨0, Nat.zero_le _, rfl, Lib.hid (by simp), Lib.hid (Below.refl _ _)⟩
  case round =>
    obtain ⟨j, hj, rfl, HA, HB⟩ := hrel
    by_cases hjn : j < n
    · have hjl : j < ns.length := by rw [HN.out]; exact hjn
      obtain ⟨b, off, rfl, _, hbw, hc⟩ := HR.out (by omega)
      have y0 := (HB.out.cell (p := ⟨b, off + j, none⟩) hbw).trans (hc j hjl)
      obtain ⟨y, hy⟩ : ∃ y, ns[j] = y := ⟨_, rfl⟩
      rw [hy] at y0
      have hyl := HSM.out j hjl
      rw [hy] at hyl
      have HV : Hid (∀ W, Tabs W → Calls Tryd.prog 41 #[.string (bs y)] W fun e w' => e = .returned (.bool (validD y)) ∧ Below W.heap.size W w') := Lib.hid (fun W hW => by
        have := uvalid_any (bs y) W (by rw [bs_size]; exact hyl) hW
        rw [bs_list] at this
        exact this)
      have HTK := alls_take ns j hjl
      rw [hy, HA.out, Bool.true_and] at HTK
      have HTR : Hid (Tabs wr) := Lib.hid (HT.out.off (Off.of_below HB.out) (fun h => h) (fun h => h))
      have HYV := Lib.hid (fun (h : validD y = false) => alls_some hjl (by rw [hy]; exact h))
      obtain ⟨q, hq⟩ : ∃ q, validD y = q := ⟨_, rfl⟩
      rw [hq] at HTK HV HYV
      have HTH := Lib.hid HTK
      clear hc hy hyl HTK hq
      cases q with
      | true =>
        go_wp2_with (go_at_call 41; (with_reducible refine (HV.out _ HTR.out).mono ?_); rintro e w5 ⟨rfl, b5⟩)
        exact ⟨⟨j + 1, by omega, rfl, HTH, Lib.hid (HB.out.trans (b5.mono HB.out.size))⟩, by show n - ((j : Int) + 1).toNat < n - (j : Int).toNat; omega⟩
      | false =>
        have HY2 := Lib.hid (HYV.out rfl)
        clear HYV
        go_wp2_with (go_at_call 41; (with_reducible refine (HV.out _ HTR.out).mono ?_); rintro e w5 ⟨rfl, b5⟩)
        go_ret
        exact ⟨by rw [HY2.out]; rfl, HB.out.trans (b5.mono HB.out.size)⟩
    · obtain rfl : j = n := by omega
      have htk : ns.take j = ns := List.take_of_length_le (by rw [HN.out]; exact Nat.le_refl _)
      rw [htk] at HA
      clear htk
      go_wp2
      go_ret
      exact ⟨by rw [HA.out]; rfl, HB.out⟩
/-- What isRight answers. -/
def RightC (N : Nat) : Prop := ∀ (T : Nat → Prop) (v : JV) (x : Value) (d : Nat) (z : Int) (w : World), wJ v ≤ N → JR w T v x → Tabs w → z + d = 24 → 0 ≤ z → Calls Tryd.prog 25 #[x, .int .i64 z] w fun e w' => e = .returned (.bool (rightJ d v)) ∧ Below w.heap.size w w'
set_option maxRecDepth 100000 in
set_option maxHeartbeats 1000000 in
theorem pare_any {N : Nat} (IH : RightC N) {T : Nat → Prop} {l : List JV} {lA : Option Addr} {lc n d : Nat} {z : Int} {w : World} (hl : l.length = n) (hn9 : n ≤ 1000000000) (hW : wsJ l ≤ N) (hL : 0 < l.length → ∃ b off, lA = some ⟨b, off, none⟩ ∧ T b ∧ b < w.heap.size ∧ JRl w T l b off) (hT : Tabs w) (hz : z + d = 24) (hz0 : 0 ≤ z) :
    Calls Tryd.prog 42 #[.slice lA n lc, .int .i64 z] w fun e w' => e = .returned (.bool (areB d l)) ∧ Below w.heap.size w w' := by
  have HN := Lib.hid hl
  have HL := Lib.hid hL
  have HT := Lib.hid hT
  have HIH := Lib.hid IH
  have HW := Lib.hid hW
  have HZ := Lib.hid hz
  clear hl hL hT IH hW
  by_cases h0 : z = 0
  · subst h0
    have HE : Hid (areB d l = false) := Lib.hid (by unfold areB; rw [decide_eq_false (by omega)]; rfl)
    clear hz
    go_enter Tryd.func42, Tryd.ntmps42
    go_wp2
    go_ret
    exact ⟨by rw [HE.out]; rfl, Below.refl _ _⟩
  · have e0 : (z == 0) = false := by rw [beq_eq_false_iff_ne]; exact h0
    have hwz : IntKind.i64.wrap (z - 1) = z - 1 := IntWalk.i64_in _ (by omega)
    have HE : Hid (areB d l = rightsJ (d + 1) l) := Lib.hid (by unfold areB; rw [decide_eq_true (by omega)]; rfl)
    have HZ1 : Hid (z - 1 + ((d + 1 : Nat) : Int) = 24 ∧ 0 ≤ z - 1) := Lib.hid (by omega)
    clear hz h0 hz0
    go_enter Tryd.func42, Tryd.ntmps42
    go_wp2
    go_loopw [11] (fun i wr => ∃ j : Nat, j ≤ n ∧ i = .int .i64 j ∧ Hid (rightsJ (d + 1) (l.take j) = true) ∧ Hid (Below w.heap.size w wr)) (fun i _ => n - (RowKit.intOf i).toNat)
    case atStart => exact ⟨0, Nat.zero_le _, rfl, Lib.hid (by rw [List.take_zero, rightsJ]), Lib.hid (Below.refl _ _)⟩
    case round =>
      obtain ⟨j, hj, rfl, HA, HB⟩ := hrel
      by_cases hjn : j < n
      · have hjl : j < l.length := by rw [HN.out]; exact hjn
        obtain ⟨b, off, rfl, _, hbw, hJl⟩ := HL.out (by omega)
        obtain ⟨x0, x1, x2, x3, c0, c1, c2, c3, hJ⟩ := hJl.at j hjl
        obtain ⟨k', s', nA', nn', nc', lA', ln', lc', rfl, rfl, rfl, rfl⟩ := jr_form hJ
        have y0 := (HB.out.cell (p := ⟨b, off + j * 4, none⟩) hbw).trans c0
        have y1 := (HB.out.cell (p := ⟨b, off + j * 4 + 1, none⟩) hbw).trans c1
        have y2 := (HB.out.cell (p := ⟨b, off + j * 4 + 2, none⟩) hbw).trans c2
        have y3 := (HB.out.cell (p := ⟨b, off + j * 4 + 3, none⟩) hbw).trans c3
        have hba : Below wr.heap.size wr (wr.alloc (.cells #[.int .i64 k', .string s', .slice nA' nn' nc', .slice lA' ln' lc'] TJ)) := (Below.refl _ _).alloc (Nat.le_refl _) _
        obtain ⟨q, hq⟩ : ∃ q, rightJ (d + 1) l[j] = q := ⟨_, rfl⟩
        have HC := HIH.out T l[j] _ (d + 1) (z - 1) (wr.alloc (.cells #[.int .i64 k', .string s', .slice nA' nn' nc', .slice lA' ln' lc'] TJ)) (by have := wsJ_at l j hjl; have := HW.out; omega) ((hJ.below HB.out).below hba) ((HT.out.off (Off.of_below HB.out) (fun h => h) (fun h => h)).off (Off.of_below hba) (fun h => h) (fun h => h)) HZ1.out.1 HZ1.out.2
        rw [hq] at HC
        have HCH := Lib.hid HC
        have n0 := (Blk.new (.cells #[.int .i64 k', .string s', .slice nA' nn' nc', .slice lA' ln' lc'] TJ (0, 0)) wr).cell 0
        have n1 := (Blk.new (.cells #[.int .i64 k', .string s', .slice nA' nn' nc', .slice lA' ln' lc'] TJ (0, 0)) wr).cell 1
        have n2 := (Blk.new (.cells #[.int .i64 k', .string s', .slice nA' nn' nc', .slice lA' ln' lc'] TJ (0, 0)) wr).cell 2
        have n3 := (Blk.new (.cells #[.int .i64 k', .string s', .slice nA' nn' nc', .slice lA' ln' lc'] TJ (0, 0)) wr).cell 3
        have HTK := rights_take l (d + 1) j hjl
        rw [hq, HA.out, Bool.true_and] at HTK
        have HTH := Lib.hid HTK
        have HF := Lib.hid (fun (h : q = false) => rights_some (d := d + 1) hjl (by rw [hq]; exact h))
        have hsz := HB.out.size
        have HBA := Lib.hid hba
        clear hJl hJ c0 c1 c2 c3 HC HTK hq hba
        cases q with
        | true =>
          go_wp2_with (go_at_call 25; (with_reducible refine HCH.out.mono ?_); rintro e w5 ⟨rfl, b5⟩)
          exact ⟨⟨j + 1, by omega, rfl, HTH, Lib.hid (HB.out.trans (Below.mono (HBA.out.trans (b5.mono HBA.out.size)) hsz))⟩, by show n - ((j : Int) + 1).toNat < n - (j : Int).toNat; omega⟩
        | false =>
          have HF2 := Lib.hid (HF.out rfl)
          clear HF
          go_wp2_with (go_at_call 25; (with_reducible refine HCH.out.mono ?_); rintro e w5 ⟨rfl, b5⟩)
          go_ret
          exact ⟨by rw [HE.out, HF2.out]; rfl, HB.out.trans (Below.mono (HBA.out.trans (b5.mono HBA.out.size)) hsz)⟩
      · obtain rfl : j = n := by omega
        have htk : l.take j = l := List.take_of_length_le (by rw [HN.out]; exact Nat.le_refl _)
        rw [htk] at HA
        clear htk
        go_wp2
        go_ret
        exact ⟨by rw [HE.out, HA.out]; rfl, HB.out⟩
set_option maxRecDepth 100000 in
set_option maxHeartbeats 2000000 in
theorem pright0 {N : Nat} (_IH : RightC N) {T : Nat → Prop} {t : Bt} {ns : List Bt} {l : List JV} {x : Value} {d : Nat} {z : Int} {w : World} (hW : wJ (.mk 0 t ns l) ≤ N + 1) (hN : N ≤ 1999999) (hJ : JR w T (.mk 0 t ns l) x) (hT : Tabs w) (_hz : z + d = 24) (_hz0 : 0 ≤ z) :
    Calls Tryd.prog 25 #[x, .int .i64 z] w fun e w' => e = .returned (.bool (rightJ d (.mk 0 t ns l))) ∧ Below w.heap.size w w' := by
  rw [wJ] at hW
  have hnsl := nsW_len ns
  have hwl := wsJ_len l
  have hJ2 := hJ
  rw [JR] at hJ
  obtain ⟨nA, nc, lA, lc, rfl, hTx, hL⟩ := hJ
  have HJ2 := Lib.hid hJ2
  have HTX := Lib.hid hTx
  have HL := Lib.hid hL
  have HT := Lib.hid hT
  have HNS : Hid (∀ j (h : j < ns.length), ns[j].length ≤ 2000000) := Lib.hid (fun j h => by have := nsW_at ns j h; omega)
  have HNL : Hid (ns.length ≤ 1000000000 ∧ l.length ≤ 1000000000 ∧ wsJ l ≤ N ∧ t.length ≤ 2000000) := Lib.hid ⟨by omega, by omega, by omega, by omega⟩
  have HSI := Lib.hid (fun W (hb : Below w.heap.size w W) => psingle_any (hJ2.below hb))
  clear hJ2 hTx hL hT hW hnsl hwl
  obtain ⟨nn, hnn⟩ : ∃ n, ns.length = n := ⟨_, rfl⟩
  obtain ⟨n, hn⟩ : ∃ n, l.length = n := ⟨_, rfl⟩
  rw [hnn, hn] at HSI ⊢
  have HNN := Lib.hid hnn
  have HN := Lib.hid hn
  clear hnn hn
  obtain ⟨S, hS⟩ : ∃ s, bs t = s := ⟨_, rfl⟩
  have HS := Lib.hid hS
  rw [hS] at HSI ⊢
  have hb0 : Below (w.heap.size + 1) (w.alloc (.cells #[.int .i64 0, .string S, .slice nA nn nc, .slice lA n lc] TJ)) (w.alloc (.cells #[.int .i64 0, .string S, .slice nA nn nc, .slice lA n lc] TJ)) := Below.refl _ _
  have HB0 := Lib.hid hb0
  have HB1 := Lib.hid (box_below _ _ _ hb0)
  clear hb0 hS
  have HE : Hid (rightJ d (.mk 0 t ns l) = (decide (t = []) && singleB ns l)) := Lib.hid (by rw [right_low (by decide) (by decide)]; rfl)
  obtain ⟨q, hq⟩ : ∃ q, singleB ns l = q := ⟨_, rfl⟩
  rw [hq] at HSI HE
  by_cases ht : t = []
  · have hne : S.toList = [] := by rw [← HS.out, Lib.toList_data, bs_list, ht]
    have HE2 : Hid (rightJ d (.mk 0 t ns l) = q) := Lib.hid (by rw [HE.out, decide_eq_true ht, Bool.true_and])
    clear ht HE hq
    go_enter Tryd.func25, Tryd.ntmps25
    go_wp2_with (go_at_call 39; (with_reducible refine (HSI.out _ HB1.out).mono ?_); rintro e w2 ⟨rfl, b2⟩)
    go_ret
    exact ⟨by rw [HE2.out]; rfl, HB1.out.trans (b2.mono HB1.out.size)⟩
  · have hne : ¬ S.toList = [] := by rw [← HS.out, Lib.toList_data, bs_list]; exact ht
    have hne2 : S.toList.isEmpty = false := by
      cases hq : S.toList with
      | nil => exact absurd hq hne
      | cons a b => rfl
    have HE2 : Hid (rightJ d (.mk 0 t ns l) = false) := Lib.hid (by rw [HE.out, decide_eq_false ht, Bool.false_and])
    clear ht HE hq
    go_enter Tryd.func25, Tryd.ntmps25
    go_wp2
    go_ret
    exact ⟨by rw [HE2.out]; rfl, HB1.out⟩
set_option maxRecDepth 100000 in
set_option maxHeartbeats 2000000 in
theorem pright1 {N : Nat} (_IH : RightC N) {T : Nat → Prop} {t : Bt} {ns : List Bt} {l : List JV} {x : Value} {d : Nat} {z : Int} {w : World} (hW : wJ (.mk 1 t ns l) ≤ N + 1) (hN : N ≤ 1999999) (hJ : JR w T (.mk 1 t ns l) x) (hT : Tabs w) (_hz : z + d = 24) (_hz0 : 0 ≤ z) :
    Calls Tryd.prog 25 #[x, .int .i64 z] w fun e w' => e = .returned (.bool (rightJ d (.mk 1 t ns l))) ∧ Below w.heap.size w w' := by
  rw [wJ] at hW
  have hnsl := nsW_len ns
  have hwl := wsJ_len l
  have hJ2 := hJ
  rw [JR] at hJ
  obtain ⟨nA, nc, lA, lc, rfl, hTx, hL⟩ := hJ
  have HJ2 := Lib.hid hJ2
  have HTX := Lib.hid hTx
  have HL := Lib.hid hL
  have HT := Lib.hid hT
  have HNS : Hid (∀ j (h : j < ns.length), ns[j].length ≤ 2000000) := Lib.hid (fun j h => by have := nsW_at ns j h; omega)
  have HNL : Hid (ns.length ≤ 1000000000 ∧ l.length ≤ 1000000000 ∧ wsJ l ≤ N ∧ t.length ≤ 2000000) := Lib.hid ⟨by omega, by omega, by omega, by omega⟩
  have HSI := Lib.hid (fun W (hb : Below w.heap.size w W) => psingle_any (hJ2.below hb))
  clear hJ2 hTx hL hT hW hnsl hwl
  obtain ⟨nn, hnn⟩ : ∃ n, ns.length = n := ⟨_, rfl⟩
  obtain ⟨n, hn⟩ : ∃ n, l.length = n := ⟨_, rfl⟩
  rw [hnn, hn] at HSI ⊢
  have HNN := Lib.hid hnn
  have HN := Lib.hid hn
  clear hnn hn
  obtain ⟨S, hS⟩ : ∃ s, bs t = s := ⟨_, rfl⟩
  have HS := Lib.hid hS
  rw [hS] at HSI ⊢
  have hb0 : Below (w.heap.size + 1) (w.alloc (.cells #[.int .i64 1, .string S, .slice nA nn nc, .slice lA n lc] TJ)) (w.alloc (.cells #[.int .i64 1, .string S, .slice nA nn nc, .slice lA n lc] TJ)) := Below.refl _ _
  have HB0 := Lib.hid hb0
  have HB1 := Lib.hid (box_below _ _ _ hb0)
  clear hb0 hS
  have HE : Hid (rightJ d (.mk 1 t ns l) = (decide (t = []) && singleB ns l)) := Lib.hid (by rw [right_low (by decide) (by decide)]; rfl)
  obtain ⟨q, hq⟩ : ∃ q, singleB ns l = q := ⟨_, rfl⟩
  rw [hq] at HSI HE
  by_cases ht : t = []
  · have hne : S.toList = [] := by rw [← HS.out, Lib.toList_data, bs_list, ht]
    have HE2 : Hid (rightJ d (.mk 1 t ns l) = q) := Lib.hid (by rw [HE.out, decide_eq_true ht, Bool.true_and])
    clear ht HE hq
    go_enter Tryd.func25, Tryd.ntmps25
    go_wp2_with (go_at_call 39; (with_reducible refine (HSI.out _ HB1.out).mono ?_); rintro e w2 ⟨rfl, b2⟩)
    go_ret
    exact ⟨by rw [HE2.out]; rfl, HB1.out.trans (b2.mono HB1.out.size)⟩
  · have hne : ¬ S.toList = [] := by rw [← HS.out, Lib.toList_data, bs_list]; exact ht
    have hne2 : S.toList.isEmpty = false := by
      cases hq : S.toList with
      | nil => exact absurd hq hne
      | cons a b => rfl
    have HE2 : Hid (rightJ d (.mk 1 t ns l) = false) := Lib.hid (by rw [HE.out, decide_eq_false ht, Bool.false_and])
    clear ht HE hq
    go_enter Tryd.func25, Tryd.ntmps25
    go_wp2
    go_ret
    exact ⟨by rw [HE2.out]; rfl, HB1.out⟩
set_option maxRecDepth 100000 in
set_option maxHeartbeats 2000000 in
theorem pright2 {N : Nat} (_IH : RightC N) {T : Nat → Prop} {t : Bt} {ns : List Bt} {l : List JV} {x : Value} {d : Nat} {z : Int} {w : World} (hW : wJ (.mk 2 t ns l) ≤ N + 1) (hN : N ≤ 1999999) (hJ : JR w T (.mk 2 t ns l) x) (hT : Tabs w) (_hz : z + d = 24) (_hz0 : 0 ≤ z) :
    Calls Tryd.prog 25 #[x, .int .i64 z] w fun e w' => e = .returned (.bool (rightJ d (.mk 2 t ns l))) ∧ Below w.heap.size w w' := by
  rw [wJ] at hW
  have hnsl := nsW_len ns
  have hwl := wsJ_len l
  have hJ2 := hJ
  rw [JR] at hJ
  obtain ⟨nA, nc, lA, lc, rfl, hTx, hL⟩ := hJ
  have HJ2 := Lib.hid hJ2
  have HTX := Lib.hid hTx
  have HL := Lib.hid hL
  have HT := Lib.hid hT
  have HNS : Hid (∀ j (h : j < ns.length), ns[j].length ≤ 2000000) := Lib.hid (fun j h => by have := nsW_at ns j h; omega)
  have HNL : Hid (ns.length ≤ 1000000000 ∧ l.length ≤ 1000000000 ∧ wsJ l ≤ N ∧ t.length ≤ 2000000) := Lib.hid ⟨by omega, by omega, by omega, by omega⟩
  have HSI := Lib.hid (fun W (hb : Below w.heap.size w W) => psingle_any (hJ2.below hb))
  clear hJ2 hTx hL hT hW hnsl hwl
  obtain ⟨nn, hnn⟩ : ∃ n, ns.length = n := ⟨_, rfl⟩
  obtain ⟨n, hn⟩ : ∃ n, l.length = n := ⟨_, rfl⟩
  rw [hnn, hn] at HSI ⊢
  have HNN := Lib.hid hnn
  have HN := Lib.hid hn
  clear hnn hn
  obtain ⟨S, hS⟩ : ∃ s, bs t = s := ⟨_, rfl⟩
  have HS := Lib.hid hS
  rw [hS] at HSI ⊢
  have hb0 : Below (w.heap.size + 1) (w.alloc (.cells #[.int .i64 2, .string S, .slice nA nn nc, .slice lA n lc] TJ)) (w.alloc (.cells #[.int .i64 2, .string S, .slice nA nn nc, .slice lA n lc] TJ)) := Below.refl _ _
  have HB0 := Lib.hid hb0
  have HB1 := Lib.hid (box_below _ _ _ hb0)
  clear hb0 hS
  have HE : Hid (rightJ d (.mk 2 t ns l) = (decide (t = []) && singleB ns l)) := Lib.hid (by rw [right_low (by decide) (by decide)]; rfl)
  obtain ⟨q, hq⟩ : ∃ q, singleB ns l = q := ⟨_, rfl⟩
  rw [hq] at HSI HE
  by_cases ht : t = []
  · have hne : S.toList = [] := by rw [← HS.out, Lib.toList_data, bs_list, ht]
    have HE2 : Hid (rightJ d (.mk 2 t ns l) = q) := Lib.hid (by rw [HE.out, decide_eq_true ht, Bool.true_and])
    clear ht HE hq
    go_enter Tryd.func25, Tryd.ntmps25
    go_wp2_with (go_at_call 39; (with_reducible refine (HSI.out _ HB1.out).mono ?_); rintro e w2 ⟨rfl, b2⟩)
    go_ret
    exact ⟨by rw [HE2.out]; rfl, HB1.out.trans (b2.mono HB1.out.size)⟩
  · have hne : ¬ S.toList = [] := by rw [← HS.out, Lib.toList_data, bs_list]; exact ht
    have hne2 : S.toList.isEmpty = false := by
      cases hq : S.toList with
      | nil => exact absurd hq hne
      | cons a b => rfl
    have HE2 : Hid (rightJ d (.mk 2 t ns l) = false) := Lib.hid (by rw [HE.out, decide_eq_false ht, Bool.false_and])
    clear ht HE hq
    go_enter Tryd.func25, Tryd.ntmps25
    go_wp2
    go_ret
    exact ⟨by rw [HE2.out]; rfl, HB1.out⟩
set_option maxRecDepth 100000 in
set_option maxHeartbeats 2000000 in
theorem pright3 {N : Nat} (_IH : RightC N) {T : Nat → Prop} {t : Bt} {ns : List Bt} {l : List JV} {x : Value} {d : Nat} {z : Int} {w : World} (hW : wJ (.mk 3 t ns l) ≤ N + 1) (hN : N ≤ 1999999) (hJ : JR w T (.mk 3 t ns l) x) (hT : Tabs w) (_hz : z + d = 24) (_hz0 : 0 ≤ z) :
    Calls Tryd.prog 25 #[x, .int .i64 z] w fun e w' => e = .returned (.bool (rightJ d (.mk 3 t ns l))) ∧ Below w.heap.size w w' := by
  rw [wJ] at hW
  have hnsl := nsW_len ns
  have hwl := wsJ_len l
  have hJ2 := hJ
  rw [JR] at hJ
  obtain ⟨nA, nc, lA, lc, rfl, hTx, hL⟩ := hJ
  have HJ2 := Lib.hid hJ2
  have HTX := Lib.hid hTx
  have HL := Lib.hid hL
  have HT := Lib.hid hT
  have HNS : Hid (∀ j (h : j < ns.length), ns[j].length ≤ 2000000) := Lib.hid (fun j h => by have := nsW_at ns j h; omega)
  have HNL : Hid (ns.length ≤ 1000000000 ∧ l.length ≤ 1000000000 ∧ wsJ l ≤ N ∧ t.length ≤ 2000000) := Lib.hid ⟨by omega, by omega, by omega, by omega⟩
  have HSI := Lib.hid (fun W (hb : Below w.heap.size w W) => psingle_any (hJ2.below hb))
  clear hJ2 hTx hL hT hW hnsl hwl
  obtain ⟨nn, hnn⟩ : ∃ n, ns.length = n := ⟨_, rfl⟩
  obtain ⟨n, hn⟩ : ∃ n, l.length = n := ⟨_, rfl⟩
  rw [hnn, hn] at HSI ⊢
  have HNN := Lib.hid hnn
  have HN := Lib.hid hn
  clear hnn hn
  obtain ⟨S, hS⟩ : ∃ s, bs t = s := ⟨_, rfl⟩
  have HS := Lib.hid hS
  rw [hS] at HSI ⊢
  have hb0 : Below (w.heap.size + 1) (w.alloc (.cells #[.int .i64 3, .string S, .slice nA nn nc, .slice lA n lc] TJ)) (w.alloc (.cells #[.int .i64 3, .string S, .slice nA nn nc, .slice lA n lc] TJ)) := Below.refl _ _
  have HB0 := Lib.hid hb0
  have HB1 := Lib.hid (box_below _ _ _ hb0)
  clear hb0 hS
  have HE : Hid (rightJ d (.mk 3 t ns l) = (decide (t ≠ [] ∧ numLen t = t.length) && singleB ns l)) := Lib.hid (by rw [right_low (by decide) (by decide)]; rfl)
  have HC : Hid (∀ W, Tabs W → Calls Tryd.prog 40 #[.string S] W fun e w' => e = .returned (.bool (decide (t ≠ [] ∧ numLen t = t.length))) ∧ Below W.heap.size W w') := Lib.hid (fun W _ => by rw [← HS.out, ← num_form]; exact isnum_any t W)
  obtain ⟨q, hq⟩ : ∃ q, singleB ns l = q := ⟨_, rfl⟩
  obtain ⟨p, hp⟩ : ∃ q, decide (t ≠ [] ∧ numLen t = t.length) = q := ⟨_, rfl⟩
  rw [hq] at HSI HE
  rw [hp] at HC HE
  clear hp hq
  have HT1 : Hid (Tabs (w.alloc (.cells #[.int .i64 3, .string S, .slice nA nn nc, .slice lA n lc] TJ))) := Lib.hid (HT.out.off (Off.of_below HB1.out) (fun h => h) (fun h => h))
  cases p with
  | true =>
    have HE2 : Hid (rightJ d (.mk 3 t ns l) = q) := Lib.hid (by rw [HE.out, Bool.true_and])
    clear HE
    go_enter Tryd.func25, Tryd.ntmps25
    go_wp2_with (first
      | (go_at_call 40; (with_reducible refine (HC.out _ HT1.out).mono ?_); rintro e w1 ⟨rfl, b1⟩
         obtain ⟨g0, g1, g2, g3⟩ := box4 _ _ _ _ _ _ _ _ w w1 (by simpa using b1)
         have HB2 := Lib.hid (box_below _ _ _ (by simpa using b1))
         clear b1)
      | (go_at_call 39; (with_reducible refine (HSI.out _ HB2.out).mono ?_); rintro e w2 ⟨rfl, b2⟩))
    go_ret
    exact ⟨by rw [HE2.out]; rfl, HB2.out.trans (b2.mono HB2.out.size)⟩
  | false =>
    have HE2 : Hid (rightJ d (.mk 3 t ns l) = false) := Lib.hid (by rw [HE.out, Bool.false_and])
    clear HE
    go_enter Tryd.func25, Tryd.ntmps25
    go_wp2_with (go_at_call 40; (with_reducible refine (HC.out _ HT1.out).mono ?_); rintro e w1 ⟨rfl, b1⟩
                 have HB2 := Lib.hid (box_below _ _ _ (by simpa using b1))
                 clear b1)
    go_ret
    exact ⟨by rw [HE2.out]; rfl, HB2.out⟩
set_option maxRecDepth 100000 in
set_option maxHeartbeats 2000000 in
theorem pright4 {N : Nat} (_IH : RightC N) {T : Nat → Prop} {t : Bt} {ns : List Bt} {l : List JV} {x : Value} {d : Nat} {z : Int} {w : World} (hW : wJ (.mk 4 t ns l) ≤ N + 1) (hN : N ≤ 1999999) (hJ : JR w T (.mk 4 t ns l) x) (hT : Tabs w) (_hz : z + d = 24) (_hz0 : 0 ≤ z) :
    Calls Tryd.prog 25 #[x, .int .i64 z] w fun e w' => e = .returned (.bool (rightJ d (.mk 4 t ns l))) ∧ Below w.heap.size w w' := by
  rw [wJ] at hW
  have hnsl := nsW_len ns
  have hwl := wsJ_len l
  have hJ2 := hJ
  rw [JR] at hJ
  obtain ⟨nA, nc, lA, lc, rfl, hTx, hL⟩ := hJ
  have HJ2 := Lib.hid hJ2
  have HTX := Lib.hid hTx
  have HL := Lib.hid hL
  have HT := Lib.hid hT
  have HNS : Hid (∀ j (h : j < ns.length), ns[j].length ≤ 2000000) := Lib.hid (fun j h => by have := nsW_at ns j h; omega)
  have HNL : Hid (ns.length ≤ 1000000000 ∧ l.length ≤ 1000000000 ∧ wsJ l ≤ N ∧ t.length ≤ 2000000) := Lib.hid ⟨by omega, by omega, by omega, by omega⟩
  have HSI := Lib.hid (fun W (hb : Below w.heap.size w W) => psingle_any (hJ2.below hb))
  clear hJ2 hTx hL hT hW hnsl hwl
  obtain ⟨nn, hnn⟩ : ∃ n, ns.length = n := ⟨_, rfl⟩
  obtain ⟨n, hn⟩ : ∃ n, l.length = n := ⟨_, rfl⟩
  rw [hnn, hn] at HSI ⊢
  have HNN := Lib.hid hnn
  have HN := Lib.hid hn
  clear hnn hn
  obtain ⟨S, hS⟩ : ∃ s, bs t = s := ⟨_, rfl⟩
  have HS := Lib.hid hS
  rw [hS] at HSI ⊢
  have hb0 : Below (w.heap.size + 1) (w.alloc (.cells #[.int .i64 4, .string S, .slice nA nn nc, .slice lA n lc] TJ)) (w.alloc (.cells #[.int .i64 4, .string S, .slice nA nn nc, .slice lA n lc] TJ)) := Below.refl _ _
  have HB0 := Lib.hid hb0
  have HB1 := Lib.hid (box_below _ _ _ hb0)
  clear hb0 hS
  have HE : Hid (rightJ d (.mk 4 t ns l) = (validD t && singleB ns l)) := Lib.hid (by rw [right_low (by decide) (by decide)]; rfl)
  have HC : Hid (∀ W, Tabs W → Calls Tryd.prog 41 #[.string S] W fun e w' => e = .returned (.bool (validD t)) ∧ Below W.heap.size W w') := Lib.hid (fun W hW => by
    have := uvalid_any (bs t) W (by rw [bs_size]; exact HNL.out.2.2.2) hW
    rw [bs_list, HS.out] at this
    exact this)
  obtain ⟨q, hq⟩ : ∃ q, singleB ns l = q := ⟨_, rfl⟩
  obtain ⟨p, hp⟩ : ∃ q, validD t = q := ⟨_, rfl⟩
  rw [hq] at HSI HE
  rw [hp] at HC HE
  clear hp hq
  have HT1 : Hid (Tabs (w.alloc (.cells #[.int .i64 4, .string S, .slice nA nn nc, .slice lA n lc] TJ))) := Lib.hid (HT.out.off (Off.of_below HB1.out) (fun h => h) (fun h => h))
  cases p with
  | true =>
    have HE2 : Hid (rightJ d (.mk 4 t ns l) = q) := Lib.hid (by rw [HE.out, Bool.true_and])
    clear HE
    go_enter Tryd.func25, Tryd.ntmps25
    go_wp2_with (first
      | (go_at_call 41; (with_reducible refine (HC.out _ HT1.out).mono ?_); rintro e w1 ⟨rfl, b1⟩
         obtain ⟨g0, g1, g2, g3⟩ := box4 _ _ _ _ _ _ _ _ w w1 (by simpa using b1)
         have HB2 := Lib.hid (box_below _ _ _ (by simpa using b1))
         clear b1)
      | (go_at_call 39; (with_reducible refine (HSI.out _ HB2.out).mono ?_); rintro e w2 ⟨rfl, b2⟩))
    go_ret
    exact ⟨by rw [HE2.out]; rfl, HB2.out.trans (b2.mono HB2.out.size)⟩
  | false =>
    have HE2 : Hid (rightJ d (.mk 4 t ns l) = false) := Lib.hid (by rw [HE.out, Bool.false_and])
    clear HE
    go_enter Tryd.func25, Tryd.ntmps25
    go_wp2_with (go_at_call 41; (with_reducible refine (HC.out _ HT1.out).mono ?_); rintro e w1 ⟨rfl, b1⟩
                 have HB2 := Lib.hid (box_below _ _ _ (by simpa using b1))
                 clear b1)
    go_ret
    exact ⟨by rw [HE2.out]; rfl, HB2.out⟩
set_option maxRecDepth 100000 in
set_option maxHeartbeats 2000000 in
theorem pright5 {N : Nat} (IH : RightC N) {T : Nat → Prop} {t : Bt} {ns : List Bt} {l : List JV} {x : Value} {d : Nat} {z : Int} {w : World} (hW : wJ (.mk 5 t ns l) ≤ N + 1) (hN : N ≤ 1999999) (hJ : JR w T (.mk 5 t ns l) x) (hT : Tabs w) (hz : z + d = 24) (hz0 : 0 ≤ z) :
    Calls Tryd.prog 25 #[x, .int .i64 z] w fun e w' => e = .returned (.bool (rightJ d (.mk 5 t ns l))) ∧ Below w.heap.size w w' := by
  rw [wJ] at hW
  have hnsl := nsW_len ns
  have hwl := wsJ_len l
  have hJ2 := hJ
  rw [JR] at hJ
  obtain ⟨nA, nc, lA, lc, rfl, hTx, hL⟩ := hJ
  have HJ2 := Lib.hid hJ2
  have HTX := Lib.hid hTx
  have HL := Lib.hid hL
  have HT := Lib.hid hT
  have HNS : Hid (∀ j (h : j < ns.length), ns[j].length ≤ 2000000) := Lib.hid (fun j h => by have := nsW_at ns j h; omega)
  have HNL : Hid (ns.length ≤ 1000000000 ∧ l.length ≤ 1000000000 ∧ wsJ l ≤ N ∧ t.length ≤ 2000000) := Lib.hid ⟨by omega, by omega, by omega, by omega⟩
  have HSI := Lib.hid (fun W (hb : Below w.heap.size w W) => psingle_any (hJ2.below hb))
  clear hJ2 hTx hL hT hW hnsl hwl
  obtain ⟨nn, hnn⟩ : ∃ n, ns.length = n := ⟨_, rfl⟩
  obtain ⟨n, hn⟩ : ∃ n, l.length = n := ⟨_, rfl⟩
  rw [hnn, hn] at HSI ⊢
  have HNN := Lib.hid hnn
  have HN := Lib.hid hn
  clear hnn hn
  obtain ⟨S, hS⟩ : ∃ s, bs t = s := ⟨_, rfl⟩
  have HS := Lib.hid hS
  rw [hS] at HSI ⊢
  have hb0 : Below (w.heap.size + 1) (w.alloc (.cells #[.int .i64 5, .string S, .slice nA nn nc, .slice lA n lc] TJ)) (w.alloc (.cells #[.int .i64 5, .string S, .slice nA nn nc, .slice lA n lc] TJ)) := Below.refl _ _
  have HB0 := Lib.hid hb0
  have HB1 := Lib.hid (box_below _ _ _ hb0)
  clear hb0 hS
  have HE : Hid (rightJ d (.mk 5 t ns l) = (decide (t = []) && decide (nn = 0) && areB d l)) := Lib.hid (by rw [right_five, HNN.out])
  have HC : Hid (∀ W, Below w.heap.size w W → Calls Tryd.prog 42 #[.slice lA n lc, .int .i64 z] W fun e w' => e = .returned (.bool (areB d l)) ∧ Below W.heap.size W w') := Lib.hid (fun W hb => pare_any IH HN.out (by have := HNL.out.2.1; have := HN.out; omega) HNL.out.2.2.1 (fun h0 => by
    obtain ⟨b, off, e, h1, h2, h3⟩ := HL.out h0
    exact ⟨b, off, e, h1, Nat.lt_of_lt_of_le h2 hb.size, JRl.off (Off.of_below hb) (fun _ _ h => h) l b off (fun h => h) h3⟩) (HT.out.off (Off.of_below hb) (fun h => h) (fun h => h)) hz hz0)
  obtain ⟨q, hq⟩ : ∃ q, areB d l = q := ⟨_, rfl⟩
  rw [hq] at HC HE
  clear hq hz hz0 IH
  by_cases ht : t = []
  · by_cases hnn : nn = 0
    · subst hnn
      have hne : S.toList = [] := by rw [← HS.out, Lib.toList_data, bs_list, ht]
      have HE2 : Hid (rightJ d (.mk 5 t ns l) = q) := Lib.hid (by rw [HE.out, decide_eq_true ht]; simp)
      clear ht HE
      go_enter Tryd.func25, Tryd.ntmps25
      go_wp2_with (go_at_call 42; (with_reducible refine (HC.out _ HB1.out).mono ?_); rintro e w2 ⟨rfl, b2⟩)
      go_ret
      exact ⟨by rw [HE2.out]; rfl, HB1.out.trans (b2.mono HB1.out.size)⟩
    · have hne : S.toList = [] := by rw [← HS.out, Lib.toList_data, bs_list, ht]
      have HE2 : Hid (rightJ d (.mk 5 t ns l) = false) := Lib.hid (by rw [HE.out, decide_eq_false hnn]; simp)
      have e0 : ((nn : Int) == 0) = false := by rw [beq_eq_false_iff_ne]; omega
      clear ht HE hnn
      go_enter Tryd.func25, Tryd.ntmps25
      go_wp2
      go_ret
      exact ⟨by rw [HE2.out]; rfl, HB1.out⟩
  · have hne : ¬ S.toList = [] := by rw [← HS.out, Lib.toList_data, bs_list]; exact ht
    have hne2 : S.toList.isEmpty = false := by
      cases hq : S.toList with
      | nil => exact absurd hq hne
      | cons a b => rfl
    have HE2 : Hid (rightJ d (.mk 5 t ns l) = false) := Lib.hid (by rw [HE.out, decide_eq_false ht]; simp)
    clear ht HE
    go_enter Tryd.func25, Tryd.ntmps25
    go_wp2
    go_ret
    exact ⟨by rw [HE2.out]; rfl, HB1.out⟩
set_option maxRecDepth 100000 in
set_option maxHeartbeats 2000000 in
theorem pright6 {N : Nat} (IH : RightC N) {T : Nat → Prop} {t : Bt} {ns : List Bt} {l : List JV} {x : Value} {d : Nat} {z : Int} {w : World} (hW : wJ (.mk 6 t ns l) ≤ N + 1) (hN : N ≤ 1999999) (hJ : JR w T (.mk 6 t ns l) x) (hT : Tabs w) (hz : z + d = 24) (hz0 : 0 ≤ z) :
    Calls Tryd.prog 25 #[x, .int .i64 z] w fun e w' => e = .returned (.bool (rightJ d (.mk 6 t ns l))) ∧ Below w.heap.size w w' := by
  rw [wJ] at hW
  have hnsl := nsW_len ns
  have hwl := wsJ_len l
  have hJ2 := hJ
  rw [JR] at hJ
  obtain ⟨nA, nc, lA, lc, rfl, hTx, hL⟩ := hJ
  have HJ2 := Lib.hid hJ2
  have HTX := Lib.hid hTx
  have HL := Lib.hid hL
  have HT := Lib.hid hT
  have HNS : Hid (∀ j (h : j < ns.length), ns[j].length ≤ 2000000) := Lib.hid (fun j h => by have := nsW_at ns j h; omega)
  have HNL : Hid (ns.length ≤ 1000000000 ∧ l.length ≤ 1000000000 ∧ wsJ l ≤ N ∧ t.length ≤ 2000000) := Lib.hid ⟨by omega, by omega, by omega, by omega⟩
  have HSI := Lib.hid (fun W (hb : Below w.heap.size w W) => psingle_any (hJ2.below hb))
  clear hJ2 hTx hL hT hW hnsl hwl
  obtain ⟨nn, hnn⟩ : ∃ n, ns.length = n := ⟨_, rfl⟩
  obtain ⟨n, hn⟩ : ∃ n, l.length = n := ⟨_, rfl⟩
  rw [hnn, hn] at HSI ⊢
  have HNN := Lib.hid hnn
  have HN := Lib.hid hn
  clear hnn hn
  obtain ⟨S, hS⟩ : ∃ s, bs t = s := ⟨_, rfl⟩
  have HS := Lib.hid hS
  rw [hS] at HSI ⊢
  have hb0 : Below (w.heap.size + 1) (w.alloc (.cells #[.int .i64 6, .string S, .slice nA nn nc, .slice lA n lc] TJ)) (w.alloc (.cells #[.int .i64 6, .string S, .slice nA nn nc, .slice lA n lc] TJ)) := Below.refl _ _
  have HB0 := Lib.hid hb0
  have HB1 := Lib.hid (box_below _ _ _ hb0)
  clear hb0 hS
  have HE : Hid (rightJ d (.mk 6 t ns l) = (decide (t = []) && decide (nn = n) && ns.all validD && areB d l)) := Lib.hid (by rw [right_six, HNN.out, HN.out])
  have HX : Hid (Calls Tryd.prog 43 #[.slice nA nn nc] (w.alloc (.cells #[.int .i64 6, .string S, .slice nA nn nc, .slice lA n lc] TJ)) fun e w' => e = .returned (.bool (ns.all validD)) ∧ Below (w.alloc (.cells #[.int .i64 6, .string S, .slice nA nn nc, .slice lA n lc] TJ)).heap.size (w.alloc (.cells #[.int .i64 6, .string S, .slice nA nn nc, .slice lA n lc] TJ)) w') := Lib.hid (ptexts_any (HTX.out.off (Off.of_below HB1.out) (fun _ _ h => h)) HNN.out (by have := HNL.out.1; have := HNN.out; omega) HNS.out (HT.out.off (Off.of_below HB1.out) (fun h => h) (fun h => h)))
  have HC : Hid (∀ W, Below w.heap.size w W → Calls Tryd.prog 42 #[.slice lA n lc, .int .i64 z] W fun e w' => e = .returned (.bool (areB d l)) ∧ Below W.heap.size W w') := Lib.hid (fun W hb => pare_any IH HN.out (by have := HNL.out.2.1; have := HN.out; omega) HNL.out.2.2.1 (fun h0 => by
    obtain ⟨b, off, e, h1, h2, h3⟩ := HL.out h0
    exact ⟨b, off, e, h1, Nat.lt_of_lt_of_le h2 hb.size, JRl.off (Off.of_below hb) (fun _ _ h => h) l b off (fun h => h) h3⟩) (HT.out.off (Off.of_below hb) (fun h => h) (fun h => h)) hz hz0)
  obtain ⟨q, hq⟩ : ∃ q, areB d l = q := ⟨_, rfl⟩
  obtain ⟨p, hp⟩ : ∃ q, ns.all validD = q := ⟨_, rfl⟩
  rw [hq] at HC HE
  rw [hp] at HX HE
  clear hq hp hz hz0 IH
  by_cases ht : t = []
  · by_cases hnn : nn = n
    · subst hnn
      have hne : S.toList = [] := by rw [← HS.out, Lib.toList_data, bs_list, ht]
      have HE2 : Hid (rightJ d (.mk 6 t ns l) = (p && q)) := Lib.hid (by rw [HE.out, decide_eq_true ht]; simp)
      clear ht HE
      cases p with
      | true =>
        go_enter Tryd.func25, Tryd.ntmps25
        go_wp2_with (first
          | (go_at_call 43; (with_reducible refine HX.out.mono ?_); rintro e w1 ⟨rfl, b1⟩
             obtain ⟨g0, g1, g2, g3⟩ := box4 _ _ _ _ _ _ _ _ w w1 (by simpa using b1)
             have HB2 := Lib.hid (box_below _ _ _ (by simpa using b1))
             clear b1)
          | (go_at_call 42; (with_reducible refine (HC.out _ HB2.out).mono ?_); rintro e w2 ⟨rfl, b2⟩))
        go_ret
        exact ⟨by rw [HE2.out]; rfl, HB2.out.trans (b2.mono HB2.out.size)⟩
      | false =>
        go_enter Tryd.func25, Tryd.ntmps25
        go_wp2_with (go_at_call 43; (with_reducible refine HX.out.mono ?_); rintro e w1 ⟨rfl, b1⟩
                     have HB2 := Lib.hid (box_below _ _ _ (by simpa using b1))
                     clear b1)
        go_ret
        exact ⟨by rw [HE2.out]; rfl, HB2.out⟩
    · have hne : S.toList = [] := by rw [← HS.out, Lib.toList_data, bs_list, ht]
      have HE2 : Hid (rightJ d (.mk 6 t ns l) = false) := Lib.hid (by rw [HE.out, decide_eq_false hnn]; simp)
      have e0 : ((nn : Int) == (n : Int)) = false := by rw [beq_eq_false_iff_ne]; omega
      have e1 : (nn == n) = false := by rw [beq_eq_false_iff_ne]; exact hnn
      clear ht HE
      go_enter Tryd.func25, Tryd.ntmps25
      go_wp2
      go_ret
      exact ⟨by rw [HE2.out]; rfl, HB1.out⟩
  · have hne : ¬ S.toList = [] := by rw [← HS.out, Lib.toList_data, bs_list]; exact ht
    have hne2 : S.toList.isEmpty = false := by
      cases hq : S.toList with
      | nil => exact absurd hq hne
      | cons a b => rfl
    have HE2 : Hid (rightJ d (.mk 6 t ns l) = false) := Lib.hid (by rw [HE.out, decide_eq_false ht]; simp)
    clear ht HE
    go_enter Tryd.func25, Tryd.ntmps25
    go_wp2
    go_ret
    exact ⟨by rw [HE2.out]; rfl, HB1.out⟩
set_option maxRecDepth 100000 in
set_option maxHeartbeats 2000000 in
theorem pright_else {N : Nat} (_IH : RightC N) {T : Nat → Prop} {k : Int} {t : Bt} {ns : List Bt} {l : List JV} {x : Value} {d : Nat} {z : Int} {w : World} (hW : wJ (.mk k t ns l) ≤ N + 1) (hN : N ≤ 1999999) (hJ : JR w T (.mk k t ns l) x) (hT : Tabs w) (_hz : z + d = 24) (_hz0 : 0 ≤ z) (hk : k < 0 ∨ 6 < k) :
    Calls Tryd.prog 25 #[x, .int .i64 z] w fun e w' => e = .returned (.bool (rightJ d (.mk k t ns l))) ∧ Below w.heap.size w w' := by
  rw [wJ] at hW
  have hnsl := nsW_len ns
  have hwl := wsJ_len l
  have hJ2 := hJ
  rw [JR] at hJ
  obtain ⟨nA, nc, lA, lc, rfl, hTx, hL⟩ := hJ
  have HJ2 := Lib.hid hJ2
  have HTX := Lib.hid hTx
  have HL := Lib.hid hL
  have HT := Lib.hid hT
  have HNS : Hid (∀ j (h : j < ns.length), ns[j].length ≤ 2000000) := Lib.hid (fun j h => by have := nsW_at ns j h; omega)
  have HNL : Hid (ns.length ≤ 1000000000 ∧ l.length ≤ 1000000000 ∧ wsJ l ≤ N ∧ t.length ≤ 2000000) := Lib.hid ⟨by omega, by omega, by omega, by omega⟩
  have HSI := Lib.hid (fun W (hb : Below w.heap.size w W) => psingle_any (hJ2.below hb))
  clear hJ2 hTx hL hT hW hnsl hwl
  obtain ⟨nn, hnn⟩ : ∃ n, ns.length = n := ⟨_, rfl⟩
  obtain ⟨n, hn⟩ : ∃ n, l.length = n := ⟨_, rfl⟩
  rw [hnn, hn] at HSI ⊢
  have HNN := Lib.hid hnn
  have HN := Lib.hid hn
  clear hnn hn
  obtain ⟨S, hS⟩ : ∃ s, bs t = s := ⟨_, rfl⟩
  have HS := Lib.hid hS
  rw [hS] at HSI ⊢
  have hb0 : Below (w.heap.size + 1) (w.alloc (.cells #[.int .i64 k, .string S, .slice nA nn nc, .slice lA n lc] TJ)) (w.alloc (.cells #[.int .i64 k, .string S, .slice nA nn nc, .slice lA n lc] TJ)) := Below.refl _ _
  have HB0 := Lib.hid hb0
  have HB1 := Lib.hid (box_below _ _ _ hb0)
  clear hb0 hS
  have HE : Hid (rightJ d (.mk k t ns l) = false) := Lib.hid (right_else hk)
  have k0 : (k == 0) = false := by rw [beq_eq_false_iff_ne]; omega
  have k1 : (k == 1) = false := by rw [beq_eq_false_iff_ne]; omega
  have k2 : (k == 2) = false := by rw [beq_eq_false_iff_ne]; omega
  have k3 : (k == 3) = false := by rw [beq_eq_false_iff_ne]; omega
  have k4 : (k == 4) = false := by rw [beq_eq_false_iff_ne]; omega
  have k5 : (k == 5) = false := by rw [beq_eq_false_iff_ne]; omega
  have k6 : (k == 6) = false := by rw [beq_eq_false_iff_ne]; omega
  clear hk
  go_enter Tryd.func25, Tryd.ntmps25
  go_wp2
  go_ret
  exact ⟨by rw [HE.out]; rfl, HB1.out⟩
theorem pright_all : ∀ N, N ≤ 2000000 → RightC N
  | 0, _ => fun T v x d z w hW _ _ _ _ => by have := wJ_pos v; omega
  | N + 1, hN => fun T v x d z w hW hJ hT hz hz0 => by
    have IH := pright_all N (by omega)
    obtain ⟨k, t, ns, l⟩ := v
    by_cases hk : k < 0 ∨ 6 < k
    · exact pright_else IH hW (by omega) hJ hT hz hz0 hk
    have hk7 : k = 0 ∨ k = 1 ∨ k = 2 ∨ k = 3 ∨ k = 4 ∨ k = 5 ∨ k = 6 := by omega
    rcases hk7 with rfl | rfl | rfl | rfl | rfl | rfl | rfl
    · exact pright0 IH hW (by omega) hJ hT hz hz0
    · exact pright1 IH hW (by omega) hJ hT hz hz0
    · exact pright2 IH hW (by omega) hJ hT hz hz0
    · exact pright3 IH hW (by omega) hJ hT hz hz0
    · exact pright4 IH hW (by omega) hJ hT hz hz0
    · exact pright5 IH hW (by omega) hJ hT hz hz0
    · exact pright6 IH hW (by omega) hJ hT hz hz0
end Go.Proofs.YtchgelfomnbpaaaDoor
