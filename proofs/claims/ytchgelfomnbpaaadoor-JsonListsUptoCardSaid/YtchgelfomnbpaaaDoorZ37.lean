/-
  The program's writing of right values of JSON. Conditions: what is written stays below a thousand million bytes.
-/
import Derived.Test.YtchgelfomnbpaaaDoorZ34
import Derived.Test.YtchgelfomnbpaaaDoorZ27
import Derived.Test.YtchgelfomnbpaaaDoorZ36
namespace Go.Proofs.YtchgelfomnbpaaaDoor
open Go.RowKit
open Go.Lib

abbrev BI (B b : Nat) (acc : Bt) (w : World) : Prop := Lib.IsBuilderF 61 5 B b (byteCells acc) w
theorem cells_of (s : Bt) : Lib.strCells (bs s) = byteCells s := by
  unfold Lib.strCells Lib.byteCells
  simp [bs]
theorem sbW7 (B b : Nat) (acc s : Bt) (w : World) (h : BI B b acc w) (hlen : acc.length + s.length ≤ 140737488355328) (hBw : B ≤ w.heap.size) :
    Calls Tryd.prog 44 #[.pointer (some ⟨b, 0, none⟩), .string (bs s)] w fun e w' => e = .returned (.tuple #[.int .i64 (bs s).size, .nilIface]) ∧ Lib.BuilderAtF 61 5 B b (.pointer (some ⟨b, 0, none⟩)) (byteCells (acc ++ s)) w' ∧ Below B w w' ∧ Lib.OthersKept 5 (some b) w w' := by
  have := sbWrite B b (byteCells acc) (bs s) w h (by rw [Lib.byteCells_length, bs_size]; exact hlen) hBw
  rw [cells_of, ← byteCells_append] at this
  exact this
theorem sbB7 (B b : Nat) (acc : Bt) (c : UInt8) (z : Int) (hz : (c.toNat : Int) = z) (w : World) (h : BI B b acc w) (hlen : acc.length + 1 ≤ 140737488355328) (hBw : B ≤ w.heap.size) :
    Calls Tryd.prog 61 #[.pointer (some ⟨b, 0, none⟩), .int .u8 z] w fun e w' => e = .returned .nilIface ∧ Lib.BuilderAtF 61 5 B b (.pointer (some ⟨b, 0, none⟩)) (byteCells (acc ++ [c])) w' ∧ Below B w w' ∧ Lib.OthersKept 5 (some b) w w' := by
  subst hz
  have := sbByte B b (byteCells acc) (c.toNat : Int) w h (by rw [Lib.byteCells_length]; exact hlen) hBw
  rw [byteCells_one] at this
  exact this
theorem kept4 {w w' : World} {b X : Nat} {c : Array Value} (h : Lib.OthersKept 5 (some b) w w') (hb : Blk X (.cells c TJ (0, 0)) w) (hX : X ≠ b) : Blk X (.cells c TJ (0, 0)) w' :=
  h X _ hb (fun e => hX (Option.some.inj e)) (fun c' fz e => by injection e with e1 e2 e3; exact absurd e2 (by decide))
theorem kept_below {e : TypeId} {b : Option Nat} {w w' : World} (h : Below w.heap.size w w') : Lib.OthersKept e b w w' := fun k o hk _ _ => by
  have hlt : k < w.heap.size := (Array.getElem?_eq_some_iff.1 hk).1
  rw [h.block k hlt]
  exact hk
/-- While a value is written. -/
structure WSt (B b X M : Nat) (acc : Bt) (cx cm : Array Value) (w0 W w : World) : Prop where
  bld : BI B b acc w
  below : Below B w0 w
  oth : Lib.OthersKept 5 (some b) W w
  bw : Below B W w
  x : Blk X (.cells cx TJ (0, 0)) w
  m : Blk M (.cells cm TJ (0, 0)) w
  xb : X ≠ b
  mb : M ≠ b
  base : B = w0.heap.size
section
variable {B b X M : Nat} {acc acc' : Bt} {cx cm : Array Value} {w0 W w w' : World}
theorem WSt.le (S : WSt B b X M acc cx cm w0 W w) : B ≤ w.heap.size := by have := S.below.size; have := S.base; omega
theorem WSt.lt (S : WSt B b X M acc cx cm w0 W w) : b < w.heap.size := S.bld.elim (fun h => h.lt) (fun h => h.lt)
theorem WSt.step (S : WSt B b X M acc cx cm w0 W w) (h1 : Lib.BuilderAtF 61 5 B b (.pointer (some ⟨b, 0, none⟩)) (byteCells acc') w') (h2 : Below B w w') (h3 : Lib.OthersKept 5 (some b) w w') : WSt B b X M acc' cx cm w0 W w' :=
  ⟨.inr h1, S.below.trans h2, S.oth.trans h3, S.bw.trans h2, kept4 h3 S.x S.xb, kept4 h3 S.m S.mb, S.xb, S.mb, S.base⟩
theorem WSt.call (S : WSt B b X M acc cx cm w0 W w) (h : Below w.heap.size w w') : WSt B b X M acc cx cm w0 W w' :=
  ⟨bf_below S.bld h, S.below.trans (h.mono S.le), S.oth.trans (kept_below h), S.bw.trans (h.mono S.le), (Off.of_below h).blk S.x (fun h => h), (Off.of_below h).blk S.m (fun h => h), S.xb, S.mb, S.base⟩
/-- A box more: it becomes the second one. -/
theorem WSt.box (S : WSt B b X M acc cx cm w0 W w) (c : Array Value) : WSt B b X w.heap.size acc cx c w0 W (w.alloc (.cells c TJ (0, 0))) := by
  have h : Below w.heap.size w (w.alloc (.cells c TJ (0, 0))) := (Below.refl _ _).alloc (Nat.le_refl _) _
  have S' := S.call h
  exact ⟨S'.bld, S'.below, S'.oth, S'.bw, S'.x, Blk.new _ _, S.xb, fun e => by have := S.lt; omega, S.base⟩
theorem WSt.start {W : World} (h : BI B b acc W) (hb : Below B w0 W) (hB : B = w0.heap.size) (c : Array Value) : WSt B b W.heap.size W.heap.size acc c c w0 W (W.alloc (.cells c TJ (0, 0))) := by
  have hbl : Below W.heap.size W (W.alloc (.cells c TJ (0, 0))) := (Below.refl _ _).alloc (Nat.le_refl _) _
  have hlt : b < W.heap.size := h.elim (fun h => h.lt) (fun h => h.lt)
  exact ⟨bf_below h hbl, hb.trans (hbl.mono (by have := hb.size; omega)), kept_below hbl, hbl.mono (by have := hb.size; omega), Blk.new _ _, Blk.new _ _, by omega, by omega, hB⟩
end
/-- What write answers. -/
def WriteC (N : Nat) : Prop := ∀ (T : Nat → Prop) (v : JV) (x : Value) (w0 W : World) (B b d : Nat) (acc : Bt), wJ v ≤ N → rightJ d v = true → JR w0 T v x → B = w0.heap.size → Below B w0 W → BI B b acc W → acc.length + 64 * wJ v ≤ 900000000 →
  Calls Tryd.prog 26 #[.pointer (some ⟨b, 0, none⟩), x] W (BWr B b (acc ++ printJ v) W)
theorem rights_at7 : ∀ (l : List JV) (d j : Nat) (h : j < l.length), rightsJ d l = true → rightJ d l[j] = true
  | v :: l, d, 0, _, h => by rw [rightsJ, Bool.and_eq_true] at h; exact h.1
  | v :: l, d, j + 1, hj, h => by
    rw [rightsJ, Bool.and_eq_true] at h
    exact rights_at7 l d j (by simpa using hj) h.2
theorem wsJ_take : ∀ (l : List JV) (j : Nat), wsJ (l.take j) ≤ wsJ l
  | [], j => by simp
  | v :: l, 0 => by rw [List.take_zero, wsJ]; omega
  | v :: l, j + 1 => by
    have := wsJ_take l j
    rw [List.take_succ_cons, wsJ, wsJ]
    omega
theorem wsJ_split : ∀ (l : List JV) (j : Nat) (h : j < l.length), wsJ (l.take j) + wJ l[j] ≤ wsJ l
  | v :: l, 0, _ => by
    simp only [List.take_zero, List.getElem_cons_zero]
    rw [wsJ, wsJ]
    omega
  | v :: l, j + 1, h => by
    have := wsJ_split l j (by simpa using h)
    rw [List.take_succ_cons, wsJ, wsJ]
    simp only [List.getElem_cons_succ]
    omega
theorem nsW_split : ∀ (ns : List Bt) (j : Nat), nsW (ns.take j) + (ns.getD j []).length ≤ nsW ns
  | [], j => by simp [nsW]
  | x :: r, 0 => by
    simp only [List.take_zero]
    rw [nsW, nsW]
    simp only [List.getD_cons_zero]
    omega
  | x :: r, j + 1 => by
    have := nsW_split r j
    rw [List.take_succ_cons, nsW, nsW]
    simp only [List.getD_cons_succ]
    omega
set_option maxRecDepth 100000 in
set_option maxHeartbeats 4000000 in
theorem memb5 {N : Nat} (IH : WriteC N) {T : Nat → Prop} {t : Bt} {ns : List Bt} {l : List JV} {x : Value} {w0 W : World} {B b d : Nat} {acc : Bt} (hW : 1 + nsW ns + wsJ l ≤ N + 1) (hN : N ≤ 1999999) (hR : rightsJ d l = true) (hJ : JR w0 T (.mk 5 t ns l) x) (hB : B = w0.heap.size) (hb : Below B w0 W) (hI : BI B b acc W) (ha : acc.length + 64 * (1 + nsW ns + wsJ l) ≤ 900000000) :
    Calls Tryd.prog 46 #[.pointer (some ⟨b, 0, none⟩), x, .int .u8 91, .int .u8 93] W (BWr B b (acc ++ 91 :: (joinJ false ns l ++ [93])) W) := by
  have hnsl := nsW_len ns
  have hwl := wsJ_len l
  have hjl := join_len false ns l
  rw [JR] at hJ
  obtain ⟨nA, nc, lA, lc, rfl, hTx, hL⟩ := hJ
  have HTX := Lib.hid hTx
  have HL := Lib.hid hL
  have HR := Lib.hid hR
  have HIH := Lib.hid IH
  have HWS : Hid (wsJ l ≤ N ∧ acc.length + 64 * nsW ns + 64 * wsJ l + 64 ≤ 900000000 ∧ ns.length ≤ 1999999 ∧ l.length ≤ 1999999 ∧ nsW ns ≤ 1999999) := Lib.hid ⟨by omega, by omega, by omega, by omega, by omega⟩
  have HBW := Lib.hid hb
  have HBE := Lib.hid hB
  have S0 := WSt.start hI hb hB #[.int .i64 5, .string (bs t), .slice nA ns.length nc, .slice lA l.length lc]
  obtain ⟨nn, hnn⟩ : ∃ n, ns.length = n := ⟨_, rfl⟩
  obtain ⟨n, hn⟩ : ∃ n, l.length = n := ⟨_, rfl⟩
  rw [hnn, hn] at S0 ⊢
  have HNN := Lib.hid hnn
  have HN := Lib.hid hn
  have HL9 : Hid (n ≤ 1999999) := Lib.hid (by have := HWS.out; omega)
  obtain ⟨S, hS⟩ : ∃ s, bs t = s := ⟨_, rfl⟩
  rw [hS] at S0 ⊢
  have HS0 := Lib.hid S0
  clear hTx hL hR IH hb hB hI hW ha hnsl hwl hjl hnn hn hS S0 
  go_enter Tryd.func46, Tryd.ntmps46
  go_wp2_with fail
  refine (sbB7 B b acc 91 91 rfl _ HS0.out.bld (by have := HWS.out; omega) HS0.out.le).mono ?_
  rintro e w1 ⟨rfl, g1, g2, g3⟩
  have S1 := HS0.out.step g1 g2 g3
  have HS1 := Lib.hid S1
  have c3 := S1.x.cell 3
  obtain ⟨X, hX⟩ : ∃ X, W.heap.size = X := ⟨_, rfl⟩
  rw [hX] at HS1 c3 ⊢
  have HXW := Lib.hid hX
  clear S1 g1 g2 g3 HS0 hX
  go_wp2
  clear c3
  have hn9 := HL9.out
  go_loopw [16] (fun i wr => ∃ j : Nat, j ≤ n ∧ i = .int .i64 j ∧ Hid (∃ M cm, WSt B b X M (acc ++ [91] ++ joinJ false ns (l.take j)) #[.int .i64 5, .string S, .slice nA nn nc, .slice lA n lc] cm w0 W wr)) (fun i _ => n - (RowKit.intOf i).toNat)
  case atStart => exact ⟨0, Nat.zero_le _, rfl, Lib.hid ⟨_, _, by rw [List.take_zero, joinJ, List.append_nil]; exact HS1.out⟩⟩
  case round =>
    clear HS1
    obtain ⟨j, hj, rfl, HSE⟩ := hrel
    obtain ⟨M0, cm0, S2⟩ := HSE.out
    clear HSE
    by_cases hjn : j < n
    · have hjl : j < l.length := by rw [HN.out]; exact hjn
      obtain ⟨bl, off, rfl, _, hbw, hJl⟩ := HL.out (by omega)
      obtain ⟨x0, x1, x2, x3, c0, c1, c2, c3, hJ⟩ := hJl.at j hjl
      obtain ⟨k', s', nA', nn', nc', lA', ln', lc', rfl, rfl, rfl, rfl⟩ := jr_form hJ
      have hbe := HBE.out
      have y0 := (S2.below.cell (p := ⟨bl, off + j * 4, none⟩) (by show bl < B; omega)).trans c0
      have y1 := (S2.below.cell (p := ⟨bl, off + j * 4 + 1, none⟩) (by show bl < B; omega)).trans c1
      have y2 := (S2.below.cell (p := ⟨bl, off + j * 4 + 2, none⟩) (by show bl < B; omega)).trans c2
      have y3 := (S2.below.cell (p := ⟨bl, off + j * 4 + 3, none⟩) (by show bl < B; omega)).trans c3
      have HJT := Lib.hid (join_take false l ns j hjl)
      obtain ⟨vj, hvj⟩ : ∃ v, l[j] = v := ⟨_, rfl⟩
      have HME : Hid (memJ false ns l j hjl =  printJ vj) := Lib.hid (by unfold memJ; rw [hvj]; rfl)
      have HJ : Hid (JR w0 T vj (.agg #[.int .i64 k', .string s', .slice nA' nn' nc', .slice lA' ln' lc'])) := Lib.hid (by rw [← hvj]; exact hJ)
      have HRJ : Hid (rightJ d vj = true) := Lib.hid (by rw [← hvj]; exact rights_at7 l d j hjl HR.out)
      have HWJ : Hid (wJ vj ≤ N) := Lib.hid (by rw [← hvj]; have := wsJ_at l j hjl; have := HWS.out; omega)
      have hjtl := join_len false ns (l.take j)
      have hwsp := wsJ_split l j hjl
      rw [hvj] at hwsp
      obtain ⟨J0, hJ0⟩ : ∃ J, joinJ false ns (l.take j) = J := ⟨_, rfl⟩
      rw [hJ0] at S2 HJT hjtl
      have S3 := S2.box #[.int .i64 k', .string s', .slice nA' nn' nc', .slice lA' ln' lc']
      have HS3 := Lib.hid S3
      have HWR : Hid (W.heap.size ≤ wr.heap.size) := Lib.hid (by have := S2.x.lt; have := HXW.out; omega)
      have HAL : Hid (acc.length + J0.length + 64 * wJ vj + 24 * nsW ns + 8 ≤ 900000000) := Lib.hid (by have := HWS.out; omega)
      clear S2 S3 hJl hJ c0 c1 c2 c3 hvj hJ0 hjtl hwsp hbe
      by_cases hj0 : j = 0
      · have HJT2 : Hid (joinJ false ns (l.take (j + 1)) = J0 ++  printJ vj) := Lib.hid (by rw [HJT.out, if_pos hj0, HME.out, List.nil_append])
        have hjp : ¬ 0 < j := by omega
        clear HJT HME hj0
        have x0 := HS3.out.x.cell 0
        have m0 := HS3.out.m.cell 0
        have m1 := HS3.out.m.cell 1
        have m2 := HS3.out.m.cell 2
        have m3 := HS3.out.m.cell 3
        go_wp2_with fail
        refine (HIH.out T vj _ w0 _ B b d (acc ++ [91] ++ J0) HWJ.out HRJ.out HJ.out HBE.out HS3.out.below HS3.out.bld (by have := HAL.out; simp; omega)).mono ?_
        rintro e w8 ⟨rfl, g1, g2, g3⟩
        have HS8 := Lib.hid (HS3.out.step g1 g2 g3)
        have HEQ : Hid (acc ++ [91] ++ J0 ++ printJ vj = acc ++ [91] ++ joinJ false ns (l.take (j + 1))) := Lib.hid (by rw [HJT2.out]; simp)
        clear g1 g2 g3 HS3 m0 m1 m2 m3 HJT2 HIH
        go_wp2_with fail
        exact ⟨⟨j + 1, by omega, rfl, Lib.hid ⟨_, _, by rw [← HEQ.out]; exact HS8.out⟩⟩, by show n - (((j : Nat) : Int) + 1).toNat < n - ((j : Nat) : Int).toNat; omega⟩

      · have HJT2 : Hid (joinJ false ns (l.take (j + 1)) = J0 ++ ([44] ++ printJ vj)) := Lib.hid (by rw [HJT.out, if_neg hj0, HME.out])
        have hjp : 0 < j := by omega
        clear HJT HME hj0
        go_wp2_with fail
        refine (sbB7 B b (acc ++ [91] ++ J0) 44 44 rfl _ HS3.out.bld (by have := HAL.out; simp; omega) HS3.out.le).mono ?_
        rintro e w4 ⟨rfl, g1, g2, g3⟩
        have HS4 := Lib.hid (HS3.out.step g1 g2 g3)
        clear g1 g2 g3 HS3
        have x0 := HS4.out.x.cell 0
        have m0 := HS4.out.m.cell 0
        have m1 := HS4.out.m.cell 1
        have m2 := HS4.out.m.cell 2
        have m3 := HS4.out.m.cell 3
        go_wp2_with fail
        refine (HIH.out T vj _ w0 _ B b d (acc ++ [91] ++ J0 ++ [44]) HWJ.out HRJ.out HJ.out HBE.out HS4.out.below HS4.out.bld (by have := HAL.out; simp; omega)).mono ?_
        rintro e w8 ⟨rfl, g1, g2, g3⟩
        have HS8 := Lib.hid (HS4.out.step g1 g2 g3)
        have HEQ : Hid (acc ++ [91] ++ J0 ++ [44] ++ printJ vj = acc ++ [91] ++ joinJ false ns (l.take (j + 1))) := Lib.hid (by rw [HJT2.out]; simp)
        clear g1 g2 g3 HS4 m0 m1 m2 m3 HJT2 HIH
        go_wp2_with fail
        exact ⟨⟨j + 1, by omega, rfl, Lib.hid ⟨_, _, by rw [← HEQ.out]; exact HS8.out⟩⟩, by show n - (((j : Nat) : Int) + 1).toNat < n - ((j : Nat) : Int).toNat; omega⟩

    · obtain rfl : j = n := by omega
      have htk : l.take j = l := List.take_of_length_le (by rw [HN.out]; exact Nat.le_refl _)
      rw [htk] at S2
      have HS2 := Lib.hid S2
      have hjl := join_len false ns l
      have HAL : Hid (acc.length + (joinJ false ns l).length + 3 ≤ 900000000) := Lib.hid (by have := HWS.out; omega)
      clear htk S2 hjl
      go_wp2_with fail
      refine (sbB7 B b _ 93 93 rfl _ HS2.out.bld (by have := HAL.out; simp; omega) HS2.out.le).mono ?_
      rintro e w4 ⟨rfl, g1, g2, g3⟩
      have HS4 := Lib.hid (HS2.out.step g1 g2 g3)
      have HG := Lib.hid g1
      clear g1 g2 g3 HS2
      go_wp2
      first | go_end0 | refine bodyPost_ret (results_none rfl _ _ _) rfl ?_
      have e : acc ++ 91 :: (joinJ false ns l ++ [93]) = acc ++ [91] ++ joinJ false ns l ++ [93] := by simp
      rw [e]
      exact ⟨rfl, HG.out, HS4.out.bw, HS4.out.oth⟩
set_option maxRecDepth 100000 in
set_option maxHeartbeats 4000000 in
theorem memb6 {N : Nat} (IH : WriteC N) {T : Nat → Prop} {t : Bt} {ns : List Bt} {l : List JV} {x : Value} {w0 W : World} {B b d : Nat} {acc : Bt} (hW : 1 + nsW ns + wsJ l ≤ N + 1) (hN : N ≤ 1999999) (hR : rightsJ d l = true) (hns : ns.length = l.length) (hJ : JR w0 T (.mk 6 t ns l) x) (hB : B = w0.heap.size) (hb : Below B w0 W) (hI : BI B b acc W) (ha : acc.length + 64 * (1 + nsW ns + wsJ l) ≤ 900000000) :
    Calls Tryd.prog 46 #[.pointer (some ⟨b, 0, none⟩), x, .int .u8 123, .int .u8 125] W (BWr B b (acc ++ 123 :: (joinJ true ns l ++ [125])) W) := by
  have hnsl := nsW_len ns
  have hwl := wsJ_len l
  have hjl := join_len true ns l
  rw [JR] at hJ
  obtain ⟨nA, nc, lA, lc, rfl, hTx, hL⟩ := hJ
  have HTX := Lib.hid hTx
  have HL := Lib.hid hL
  have HR := Lib.hid hR
  have HIH := Lib.hid IH
  have HWS : Hid (wsJ l ≤ N ∧ acc.length + 64 * nsW ns + 64 * wsJ l + 64 ≤ 900000000 ∧ ns.length ≤ 1999999 ∧ l.length ≤ 1999999 ∧ nsW ns ≤ 1999999) := Lib.hid ⟨by omega, by omega, by omega, by omega, by omega⟩
  have HBW := Lib.hid hb
  have HBE := Lib.hid hB
  have HNS := Lib.hid hns
  have S0 := WSt.start hI hb hB #[.int .i64 6, .string (bs t), .slice nA ns.length nc, .slice lA l.length lc]
  obtain ⟨nn, hnn⟩ : ∃ n, ns.length = n := ⟨_, rfl⟩
  obtain ⟨n, hn⟩ : ∃ n, l.length = n := ⟨_, rfl⟩
  rw [hnn, hn] at S0 ⊢
  have HNN := Lib.hid hnn
  have HN := Lib.hid hn
  have HL9 : Hid (n ≤ 1999999) := Lib.hid (by have := HWS.out; omega)
  obtain ⟨S, hS⟩ : ∃ s, bs t = s := ⟨_, rfl⟩
  rw [hS] at S0 ⊢
  have HS0 := Lib.hid S0
  clear hTx hL hR IH hb hB hI hW ha hnsl hwl hjl hnn hn hS S0 hns
  go_enter Tryd.func46, Tryd.ntmps46
  go_wp2_with fail
  refine (sbB7 B b acc 123 123 rfl _ HS0.out.bld (by have := HWS.out; omega) HS0.out.le).mono ?_
  rintro e w1 ⟨rfl, g1, g2, g3⟩
  have S1 := HS0.out.step g1 g2 g3
  have HS1 := Lib.hid S1
  have c3 := S1.x.cell 3
  obtain ⟨X, hX⟩ : ∃ X, W.heap.size = X := ⟨_, rfl⟩
  rw [hX] at HS1 c3 ⊢
  have HXW := Lib.hid hX
  clear S1 g1 g2 g3 HS0 hX
  go_wp2
  clear c3
  have hn9 := HL9.out
  go_loopw [16] (fun i wr => ∃ j : Nat, j ≤ n ∧ i = .int .i64 j ∧ Hid (∃ M cm, WSt B b X M (acc ++ [123] ++ joinJ true ns (l.take j)) #[.int .i64 6, .string S, .slice nA nn nc, .slice lA n lc] cm w0 W wr)) (fun i _ => n - (RowKit.intOf i).toNat)
  case atStart => exact ⟨0, Nat.zero_le _, rfl, Lib.hid ⟨_, _, by rw [List.take_zero, joinJ, List.append_nil]; exact HS1.out⟩⟩
  case round =>
    clear HS1
    obtain ⟨j, hj, rfl, HSE⟩ := hrel
    obtain ⟨M0, cm0, S2⟩ := HSE.out
    clear HSE
    by_cases hjn : j < n
    · have hjl : j < l.length := by rw [HN.out]; exact hjn
      obtain ⟨bl, off, rfl, _, hbw, hJl⟩ := HL.out (by omega)
      obtain ⟨x0, x1, x2, x3, c0, c1, c2, c3, hJ⟩ := hJl.at j hjl
      obtain ⟨k', s', nA', nn', nc', lA', ln', lc', rfl, rfl, rfl, rfl⟩ := jr_form hJ
      have hbe := HBE.out
      have y0 := (S2.below.cell (p := ⟨bl, off + j * 4, none⟩) (by show bl < B; omega)).trans c0
      have y1 := (S2.below.cell (p := ⟨bl, off + j * 4 + 1, none⟩) (by show bl < B; omega)).trans c1
      have y2 := (S2.below.cell (p := ⟨bl, off + j * 4 + 2, none⟩) (by show bl < B; omega)).trans c2
      have y3 := (S2.below.cell (p := ⟨bl, off + j * 4 + 3, none⟩) (by show bl < B; omega)).trans c3
      have HJT := Lib.hid (join_take true l ns j hjl)
      obtain ⟨vj, hvj⟩ : ∃ v, l[j] = v := ⟨_, rfl⟩
      have HME : Hid (memJ true ns l j hjl = (jqL (ns.getD j []) ++ [58]) ++ printJ vj) := Lib.hid (by unfold memJ; rw [hvj]; rfl)
      have HJ : Hid (JR w0 T vj (.agg #[.int .i64 k', .string s', .slice nA' nn' nc', .slice lA' ln' lc'])) := Lib.hid (by rw [← hvj]; exact hJ)
      have HRJ : Hid (rightJ d vj = true) := Lib.hid (by rw [← hvj]; exact rights_at7 l d j hjl HR.out)
      have HWJ : Hid (wJ vj ≤ N) := Lib.hid (by rw [← hvj]; have := wsJ_at l j hjl; have := HWS.out; omega)
      have hjtl := join_len true ns (l.take j)
      have hwsp := wsJ_split l j hjl
      rw [hvj] at hwsp
      obtain ⟨J0, hJ0⟩ : ∃ J, joinJ true ns (l.take j) = J := ⟨_, rfl⟩
      rw [hJ0] at S2 HJT hjtl
      have S3 := S2.box #[.int .i64 k', .string s', .slice nA' nn' nc', .slice lA' ln' lc']
      have HS3 := Lib.hid S3
      have HWR : Hid (W.heap.size ≤ wr.heap.size) := Lib.hid (by have := S2.x.lt; have := HXW.out; omega)
      have HAL : Hid (acc.length + J0.length + 64 * wJ vj + 24 * nsW ns + 8 ≤ 900000000) := Lib.hid (by have := HWS.out; omega)
      clear S2 S3 hJl hJ c0 c1 c2 c3 hvj hJ0 hjtl hwsp hbe
      by_cases hj0 : j = 0
      · have HJT2 : Hid (joinJ true ns (l.take (j + 1)) = J0 ++ ((jqL (ns.getD j []) ++ [58]) ++ printJ vj)) := Lib.hid (by rw [HJT.out, if_pos hj0, HME.out, List.nil_append])
        have hjp : ¬ 0 < j := by omega
        clear HJT HME hj0
        have hjn2 : j < ns.length := by have := HNS.out; omega
        obtain ⟨bn, on, rfl, _, hbn, hcn⟩ := HTX.out (by omega)
        obtain ⟨y, hy⟩ : ∃ y, ns[j] = y := ⟨_, rfl⟩
        have HGD : Hid (ns.getD j [] = y) := Lib.hid (by rw [← hy]; simp [List.getD, hjn2])
        have z0 : (wr.alloc (.cells #[.int .i64 k', .string s', .slice nA' nn' nc', .slice lA' ln' lc'] TJ)).cell? ⟨bn, on + j, none⟩ = some (.string (bs y)) := by
          rw [← hy]
          exact (HS3.out.below.cell (p := ⟨bn, on + j, none⟩) (by show bn < B; have := HBE.out; omega)).trans (hcn j hjn2)
        have HYL : Hid (y.length ≤ nsW ns) := Lib.hid (by rw [← hy]; have := nsW_at ns j hjn2; omega)
        have hyn : (j : Int) < (nn : Int) := by have := HNN.out; omega
        have hy0 : (0 : Int) ≤ (j : Int) := by omega
        have x0 := HS3.out.x.cell 0
        have x2 := HS3.out.x.cell 2
        have HJS : Hid (∀ V, Calls Tryd.prog 45 #[.string (bs y)] V fun e w' => e = .returned (.string (bs (jqL y))) ∧ Below V.heap.size V w') := Lib.hid (fun V => by
          have := json_any (bs y) V (by rw [bs_size]; have := HYL.out; have := HWS.out; omega)
          rw [bs_list] at this
          exact this)
        have HJQ := Lib.hid (jq_len y)
        clear hcn hy hjn2
        go_wp2_with fail
        refine (HJS.out _).mono ?_
        rintro e w5 ⟨rfl, b5⟩
        have HS5 := Lib.hid (HS3.out.call b5)
        clear b5 x0 x2 z0 HS3 HJS
        go_wp2_with fail
        refine (sbW7 B b (acc ++ [123] ++ J0) (jqL y) _ HS5.out.bld (by have := HAL.out; have := HJQ.out; have := HYL.out; have := HWS.out; simp; omega) HS5.out.le).mono ?_
        rintro e w6 ⟨rfl, g1, g2, g3⟩
        have HS6 := Lib.hid (HS5.out.step g1 g2 g3)
        clear g1 g2 g3 HS5
        go_wp2_with fail
        refine (sbB7 B b (acc ++ [123] ++ J0 ++ jqL y) 58 58 rfl _ HS6.out.bld (by have := HAL.out; have := HJQ.out; have := HYL.out; have := HWS.out; simp; omega) HS6.out.le).mono ?_
        rintro e w7 ⟨rfl, g1, g2, g3⟩
        have HS7 := Lib.hid (HS6.out.step g1 g2 g3)
        clear g1 g2 g3 HS6
        have m0 := HS7.out.m.cell 0
        have m1 := HS7.out.m.cell 1
        have m2 := HS7.out.m.cell 2
        have m3 := HS7.out.m.cell 3
        go_wp2_with fail
        refine (HIH.out T vj _ w0 _ B b d (acc ++ [123] ++ J0 ++ jqL y ++ [58]) HWJ.out HRJ.out HJ.out HBE.out HS7.out.below HS7.out.bld (by have := HAL.out; have := HJQ.out; have := HYL.out; have := HWS.out; simp; omega)).mono ?_
        rintro e w8 ⟨rfl, g1, g2, g3⟩
        have HS8 := Lib.hid (HS7.out.step g1 g2 g3)
        have HEQ : Hid (acc ++ [123] ++ J0 ++ jqL y ++ [58] ++ printJ vj = acc ++ [123] ++ joinJ true ns (l.take (j + 1))) := Lib.hid (by rw [HJT2.out, HGD.out]; simp)
        clear g1 g2 g3 HS7 m0 m1 m2 m3 HJT2 HIH
        go_wp2_with fail
        exact ⟨⟨j + 1, by omega, rfl, Lib.hid ⟨_, _, by rw [← HEQ.out]; exact HS8.out⟩⟩, by show n - (((j : Nat) : Int) + 1).toNat < n - ((j : Nat) : Int).toNat; omega⟩

      · have HJT2 : Hid (joinJ true ns (l.take (j + 1)) = J0 ++ ([44] ++ ((jqL (ns.getD j []) ++ [58]) ++ printJ vj))) := Lib.hid (by rw [HJT.out, if_neg hj0, HME.out])
        have hjp : 0 < j := by omega
        clear HJT HME hj0
        go_wp2_with fail
        refine (sbB7 B b (acc ++ [123] ++ J0) 44 44 rfl _ HS3.out.bld (by have := HAL.out; simp; omega) HS3.out.le).mono ?_
        rintro e w4 ⟨rfl, g1, g2, g3⟩
        have HS4 := Lib.hid (HS3.out.step g1 g2 g3)
        clear g1 g2 g3 HS3
        have hjn2 : j < ns.length := by have := HNS.out; omega
        obtain ⟨bn, on, rfl, _, hbn, hcn⟩ := HTX.out (by omega)
        obtain ⟨y, hy⟩ : ∃ y, ns[j] = y := ⟨_, rfl⟩
        have HGD : Hid (ns.getD j [] = y) := Lib.hid (by rw [← hy]; simp [List.getD, hjn2])
        have z0 : w4.cell? ⟨bn, on + j, none⟩ = some (.string (bs y)) := by
          rw [← hy]
          exact (HS4.out.below.cell (p := ⟨bn, on + j, none⟩) (by show bn < B; have := HBE.out; omega)).trans (hcn j hjn2)
        have HYL : Hid (y.length ≤ nsW ns) := Lib.hid (by rw [← hy]; have := nsW_at ns j hjn2; omega)
        have hyn : (j : Int) < (nn : Int) := by have := HNN.out; omega
        have hy0 : (0 : Int) ≤ (j : Int) := by omega
        have x0 := HS4.out.x.cell 0
        have x2 := HS4.out.x.cell 2
        have HJS : Hid (∀ V, Calls Tryd.prog 45 #[.string (bs y)] V fun e w' => e = .returned (.string (bs (jqL y))) ∧ Below V.heap.size V w') := Lib.hid (fun V => by
          have := json_any (bs y) V (by rw [bs_size]; have := HYL.out; have := HWS.out; omega)
          rw [bs_list] at this
          exact this)
        have HJQ := Lib.hid (jq_len y)
        clear hcn hy hjn2
        go_wp2_with fail
        refine (HJS.out _).mono ?_
        rintro e w5 ⟨rfl, b5⟩
        have HS5 := Lib.hid (HS4.out.call b5)
        clear b5 x0 x2 z0 HS4 HJS
        go_wp2_with fail
        refine (sbW7 B b (acc ++ [123] ++ J0 ++ [44]) (jqL y) _ HS5.out.bld (by have := HAL.out; have := HJQ.out; have := HYL.out; have := HWS.out; simp; omega) HS5.out.le).mono ?_
        rintro e w6 ⟨rfl, g1, g2, g3⟩
        have HS6 := Lib.hid (HS5.out.step g1 g2 g3)
        clear g1 g2 g3 HS5
        go_wp2_with fail
        refine (sbB7 B b (acc ++ [123] ++ J0 ++ [44] ++ jqL y) 58 58 rfl _ HS6.out.bld (by have := HAL.out; have := HJQ.out; have := HYL.out; have := HWS.out; simp; omega) HS6.out.le).mono ?_
        rintro e w7 ⟨rfl, g1, g2, g3⟩
        have HS7 := Lib.hid (HS6.out.step g1 g2 g3)
        clear g1 g2 g3 HS6
        have m0 := HS7.out.m.cell 0
        have m1 := HS7.out.m.cell 1
        have m2 := HS7.out.m.cell 2
        have m3 := HS7.out.m.cell 3
        go_wp2_with fail
        refine (HIH.out T vj _ w0 _ B b d (acc ++ [123] ++ J0 ++ [44] ++ jqL y ++ [58]) HWJ.out HRJ.out HJ.out HBE.out HS7.out.below HS7.out.bld (by have := HAL.out; have := HJQ.out; have := HYL.out; have := HWS.out; simp; omega)).mono ?_
        rintro e w8 ⟨rfl, g1, g2, g3⟩
        have HS8 := Lib.hid (HS7.out.step g1 g2 g3)
        have HEQ : Hid (acc ++ [123] ++ J0 ++ [44] ++ jqL y ++ [58] ++ printJ vj = acc ++ [123] ++ joinJ true ns (l.take (j + 1))) := Lib.hid (by rw [HJT2.out, HGD.out]; simp)
        clear g1 g2 g3 HS7 m0 m1 m2 m3 HJT2 HIH
        go_wp2_with fail
        exact ⟨⟨j + 1, by omega, rfl, Lib.hid ⟨_, _, by rw [← HEQ.out]; exact HS8.out⟩⟩, by show n - (((j : Nat) : Int) + 1).toNat < n - ((j : Nat) : Int).toNat; omega⟩

    · obtain rfl : j = n := by omega
      have htk : l.take j = l := List.take_of_length_le (by rw [HN.out]; exact Nat.le_refl _)
      rw [htk] at S2
      have HS2 := Lib.hid S2
      have hjl := join_len true ns l
      have HAL : Hid (acc.length + (joinJ true ns l).length + 3 ≤ 900000000) := Lib.hid (by have := HWS.out; omega)
      clear htk S2 hjl
      go_wp2_with fail
      refine (sbB7 B b _ 125 125 rfl _ HS2.out.bld (by have := HAL.out; simp; omega) HS2.out.le).mono ?_
      rintro e w4 ⟨rfl, g1, g2, g3⟩
      have HS4 := Lib.hid (HS2.out.step g1 g2 g3)
      have HG := Lib.hid g1
      clear g1 g2 g3 HS2
      go_wp2
      first | go_end0 | refine bodyPost_ret (results_none rfl _ _ _) rfl ?_
      have e : acc ++ 123 :: (joinJ true ns l ++ [125]) = acc ++ [123] ++ joinJ true ns l ++ [125] := by simp
      rw [e]
      exact ⟨rfl, HG.out, HS4.out.bw, HS4.out.oth⟩
end Go.Proofs.YtchgelfomnbpaaaDoor
