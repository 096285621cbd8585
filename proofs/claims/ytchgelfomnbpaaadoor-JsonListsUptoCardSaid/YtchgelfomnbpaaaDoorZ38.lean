/-
  The program's Print of values of JSON. Conditions: texts of modest length; the library's two tables hold what they are laid with.
-/
import Derived.Test.YtchgelfomnbpaaaDoorZ37
import Derived.Test.YtchgelfomnbpaaaDoorZ24
namespace Go.Proofs.YtchgelfomnbpaaaDoor
open Go.RowKit
open Go.Lib

set_option maxRecDepth 100000 in
set_option maxHeartbeats 2000000 in
theorem write0 {N : Nat} (_IH : WriteC N) {T : Nat → Prop} {t : Bt} {ns : List Bt} {l : List JV} {x : Value} {w0 W : World} {B b d : Nat} {acc : Bt} (hW : wJ (.mk 0 t ns l) ≤ N + 1) (hN : N ≤ 1999999) (_hR : rightJ d (.mk 0 t ns l) = true) (hJ : JR w0 T (.mk 0 t ns l) x) (hB : B = w0.heap.size) (hb : Below B w0 W) (hI : BI B b acc W) (ha : acc.length + 64 * wJ (.mk 0 t ns l) ≤ 900000000) :
    Calls Tryd.prog 26 #[.pointer (some ⟨b, 0, none⟩), x] W (BWr B b (acc ++ printJ (.mk 0 t ns l)) W) := by
  have HPV : Hid (printJ (.mk 0 t ns l) = nullW) := Lib.hid (by rw [printJ]; rfl)
  have hJ2 := hJ
  rw [JR] at hJ
  obtain ⟨nA, nc, lA, lc, rfl, _, _⟩ := hJ
  rw [HPV.out]
  rw [wJ] at hW ha
  have HAL : Hid (acc.length + 64 * (1 + t.length + nsW ns + wsJ l) ≤ 900000000 ∧ t.length ≤ 1999999) := Lib.hid ⟨ha, by omega⟩
  have S0 := WSt.start hI hb hB #[.int .i64 0, .string (bs t), .slice nA ns.length nc, .slice lA l.length lc]
  have HS0 := Lib.hid S0
  obtain ⟨nn, hnn⟩ : ∃ n, ns.length = n := ⟨_, rfl⟩
  obtain ⟨n, hn⟩ : ∃ n, l.length = n := ⟨_, rfl⟩
  rw [hnn, hn] at S0 HS0 ⊢
  clear S0 hnn hn
  have HC : Hid (Calls Tryd.prog 44 #[.pointer (some ⟨b, 0, none⟩), .string ⟨#[110, 117, 108, 108]⟩] (W.alloc (.cells #[.int .i64 0, .string (bs t), .slice nA nn nc, .slice lA n lc] TJ)) fun e w' => (∃ z, e = .returned (.tuple #[.int .i64 z, .nilIface])) ∧ Lib.BuilderAtF 61 5 B b (.pointer (some ⟨b, 0, none⟩)) (byteCells (acc ++ nullW)) w' ∧ Below B (W.alloc (.cells #[.int .i64 0, .string (bs t), .slice nA nn nc, .slice lA n lc] TJ)) w' ∧ Lib.OthersKept 5 (some b) (W.alloc (.cells #[.int .i64 0, .string (bs t), .slice nA nn nc, .slice lA n lc] TJ)) w') := Lib.hid ((sbW7 B b acc nullW _ HS0.out.bld (by have := HAL.out; show _ + 4 ≤ _; omega) HS0.out.le).mono (fun e w' h => ⟨⟨_, h.1⟩, h.2⟩))
  clear hW ha hJ2 hI hb hB HPV
  go_enter Tryd.func26, Tryd.ntmps26
  go_wp2_with fail
  refine HC.out.mono ?_
  clear HC
  rintro e w1 ⟨⟨z, rfl⟩, g1, g2, g3⟩
  have HG := Lib.hid g1
  have HS4 := Lib.hid (HS0.out.step g1 g2 g3)
  clear g1 g2 g3 HS0
  go_wp2
  first | go_end0 | refine bodyPost_ret (results_none rfl _ _ _) rfl ?_
  exact ⟨rfl, HG.out, HS4.out.bw, HS4.out.oth⟩
set_option maxRecDepth 100000 in
set_option maxHeartbeats 2000000 in
theorem write1 {N : Nat} (_IH : WriteC N) {T : Nat → Prop} {t : Bt} {ns : List Bt} {l : List JV} {x : Value} {w0 W : World} {B b d : Nat} {acc : Bt} (hW : wJ (.mk 1 t ns l) ≤ N + 1) (hN : N ≤ 1999999) (_hR : rightJ d (.mk 1 t ns l) = true) (hJ : JR w0 T (.mk 1 t ns l) x) (hB : B = w0.heap.size) (hb : Below B w0 W) (hI : BI B b acc W) (ha : acc.length + 64 * wJ (.mk 1 t ns l) ≤ 900000000) :
    Calls Tryd.prog 26 #[.pointer (some ⟨b, 0, none⟩), x] W (BWr B b (acc ++ printJ (.mk 1 t ns l)) W) := by
  have HPV : Hid (printJ (.mk 1 t ns l) = falseW) := Lib.hid (by rw [printJ]; rfl)
  have hJ2 := hJ
  rw [JR] at hJ
  obtain ⟨nA, nc, lA, lc, rfl, _, _⟩ := hJ
  rw [HPV.out]
  rw [wJ] at hW ha
  have HAL : Hid (acc.length + 64 * (1 + t.length + nsW ns + wsJ l) ≤ 900000000 ∧ t.length ≤ 1999999) := Lib.hid ⟨ha, by omega⟩
  have S0 := WSt.start hI hb hB #[.int .i64 1, .string (bs t), .slice nA ns.length nc, .slice lA l.length lc]
  have HS0 := Lib.hid S0
  obtain ⟨nn, hnn⟩ : ∃ n, ns.length = n := ⟨_, rfl⟩
  obtain ⟨n, hn⟩ : ∃ n, l.length = n := ⟨_, rfl⟩
  rw [hnn, hn] at S0 HS0 ⊢
  clear S0 hnn hn
  have HC : Hid (Calls Tryd.prog 44 #[.pointer (some ⟨b, 0, none⟩), .string ⟨#[102, 97, 108, 115, 101]⟩] (W.alloc (.cells #[.int .i64 1, .string (bs t), .slice nA nn nc, .slice lA n lc] TJ)) fun e w' => (∃ z, e = .returned (.tuple #[.int .i64 z, .nilIface])) ∧ Lib.BuilderAtF 61 5 B b (.pointer (some ⟨b, 0, none⟩)) (byteCells (acc ++ falseW)) w' ∧ Below B (W.alloc (.cells #[.int .i64 1, .string (bs t), .slice nA nn nc, .slice lA n lc] TJ)) w' ∧ Lib.OthersKept 5 (some b) (W.alloc (.cells #[.int .i64 1, .string (bs t), .slice nA nn nc, .slice lA n lc] TJ)) w') := Lib.hid ((sbW7 B b acc falseW _ HS0.out.bld (by have := HAL.out; show _ + 5 ≤ _; omega) HS0.out.le).mono (fun e w' h => ⟨⟨_, h.1⟩, h.2⟩))
  clear hW ha hJ2 hI hb hB HPV
  go_enter Tryd.func26, Tryd.ntmps26
  go_wp2_with fail
  refine HC.out.mono ?_
  clear HC
  rintro e w1 ⟨⟨z, rfl⟩, g1, g2, g3⟩
  have HG := Lib.hid g1
  have HS4 := Lib.hid (HS0.out.step g1 g2 g3)
  clear g1 g2 g3 HS0
  go_wp2
  first | go_end0 | refine bodyPost_ret (results_none rfl _ _ _) rfl ?_
  exact ⟨rfl, HG.out, HS4.out.bw, HS4.out.oth⟩
set_option maxRecDepth 100000 in
set_option maxHeartbeats 2000000 in
theorem write2 {N : Nat} (_IH : WriteC N) {T : Nat → Prop} {t : Bt} {ns : List Bt} {l : List JV} {x : Value} {w0 W : World} {B b d : Nat} {acc : Bt} (hW : wJ (.mk 2 t ns l) ≤ N + 1) (hN : N ≤ 1999999) (_hR : rightJ d (.mk 2 t ns l) = true) (hJ : JR w0 T (.mk 2 t ns l) x) (hB : B = w0.heap.size) (hb : Below B w0 W) (hI : BI B b acc W) (ha : acc.length + 64 * wJ (.mk 2 t ns l) ≤ 900000000) :
    Calls Tryd.prog 26 #[.pointer (some ⟨b, 0, none⟩), x] W (BWr B b (acc ++ printJ (.mk 2 t ns l)) W) := by
  have HPV : Hid (printJ (.mk 2 t ns l) = trueW) := Lib.hid (by rw [printJ]; rfl)
  have hJ2 := hJ
  rw [JR] at hJ
  obtain ⟨nA, nc, lA, lc, rfl, _, _⟩ := hJ
  rw [HPV.out]
  rw [wJ] at hW ha
  have HAL : Hid (acc.length + 64 * (1 + t.length + nsW ns + wsJ l) ≤ 900000000 ∧ t.length ≤ 1999999) := Lib.hid ⟨ha, by omega⟩
  have S0 := WSt.start hI hb hB #[.int .i64 2, .string (bs t), .slice nA ns.length nc, .slice lA l.length lc]
  have HS0 := Lib.hid S0
  obtain ⟨nn, hnn⟩ : ∃ n, ns.length = n := ⟨_, rfl⟩
  obtain ⟨n, hn⟩ : ∃ n, l.length = n := ⟨_, rfl⟩
  rw [hnn, hn] at S0 HS0 ⊢
  clear S0 hnn hn
  have HC : Hid (Calls Tryd.prog 44 #[.pointer (some ⟨b, 0, none⟩), .string ⟨#[116, 114, 117, 101]⟩] (W.alloc (.cells #[.int .i64 2, .string (bs t), .slice nA nn nc, .slice lA n lc] TJ)) fun e w' => (∃ z, e = .returned (.tuple #[.int .i64 z, .nilIface])) ∧ Lib.BuilderAtF 61 5 B b (.pointer (some ⟨b, 0, none⟩)) (byteCells (acc ++ trueW)) w' ∧ Below B (W.alloc (.cells #[.int .i64 2, .string (bs t), .slice nA nn nc, .slice lA n lc] TJ)) w' ∧ Lib.OthersKept 5 (some b) (W.alloc (.cells #[.int .i64 2, .string (bs t), .slice nA nn nc, .slice lA n lc] TJ)) w') := Lib.hid ((sbW7 B b acc trueW _ HS0.out.bld (by have := HAL.out; show _ + 4 ≤ _; omega) HS0.out.le).mono (fun e w' h => ⟨⟨_, h.1⟩, h.2⟩))
  clear hW ha hJ2 hI hb hB HPV
  go_enter Tryd.func26, Tryd.ntmps26
  go_wp2_with fail
  refine HC.out.mono ?_
  clear HC
  rintro e w1 ⟨⟨z, rfl⟩, g1, g2, g3⟩
  have HG := Lib.hid g1
  have HS4 := Lib.hid (HS0.out.step g1 g2 g3)
  clear g1 g2 g3 HS0
  go_wp2
  first | go_end0 | refine bodyPost_ret (results_none rfl _ _ _) rfl ?_
  exact ⟨rfl, HG.out, HS4.out.bw, HS4.out.oth⟩
set_option maxRecDepth 100000 in
set_option maxHeartbeats 2000000 in
theorem write3 {N : Nat} (_IH : WriteC N) {T : Nat → Prop} {t : Bt} {ns : List Bt} {l : List JV} {x : Value} {w0 W : World} {B b d : Nat} {acc : Bt} (hW : wJ (.mk 3 t ns l) ≤ N + 1) (hN : N ≤ 1999999) (_hR : rightJ d (.mk 3 t ns l) = true) (hJ : JR w0 T (.mk 3 t ns l) x) (hB : B = w0.heap.size) (hb : Below B w0 W) (hI : BI B b acc W) (ha : acc.length + 64 * wJ (.mk 3 t ns l) ≤ 900000000) :
    Calls Tryd.prog 26 #[.pointer (some ⟨b, 0, none⟩), x] W (BWr B b (acc ++ printJ (.mk 3 t ns l)) W) := by
  have HPV : Hid (printJ (.mk 3 t ns l) = t) := Lib.hid (by rw [printJ]; rfl)
  have hJ2 := hJ
  rw [JR] at hJ
  obtain ⟨nA, nc, lA, lc, rfl, _, _⟩ := hJ
  rw [HPV.out]
  rw [wJ] at hW ha
  have HAL : Hid (acc.length + 64 * (1 + t.length + nsW ns + wsJ l) ≤ 900000000 ∧ t.length ≤ 1999999) := Lib.hid ⟨ha, by omega⟩
  have S0 := WSt.start hI hb hB #[.int .i64 3, .string (bs t), .slice nA ns.length nc, .slice lA l.length lc]
  have HS0 := Lib.hid S0
  obtain ⟨nn, hnn⟩ : ∃ n, ns.length = n := ⟨_, rfl⟩
  obtain ⟨n, hn⟩ : ∃ n, l.length = n := ⟨_, rfl⟩
  rw [hnn, hn] at S0 HS0 ⊢
  clear S0 hnn hn
  clear hW ha hJ2 hI hb hB HPV
  go_enter Tryd.func26, Tryd.ntmps26
  go_wp2_with fail
  refine (sbW7 B b acc t _ HS0.out.bld (by have := HAL.out; omega) HS0.out.le).mono ?_
  rintro e w1 ⟨rfl, g1, g2, g3⟩
  have HG := Lib.hid g1
  have HS4 := Lib.hid (HS0.out.step g1 g2 g3)
  clear g1 g2 g3 HS0
  go_wp2
  first | go_end0 | refine bodyPost_ret (results_none rfl _ _ _) rfl ?_
  exact ⟨rfl, HG.out, HS4.out.bw, HS4.out.oth⟩
set_option maxRecDepth 100000 in
set_option maxHeartbeats 2000000 in
theorem write4 {N : Nat} (_IH : WriteC N) {T : Nat → Prop} {t : Bt} {ns : List Bt} {l : List JV} {x : Value} {w0 W : World} {B b d : Nat} {acc : Bt} (hW : wJ (.mk 4 t ns l) ≤ N + 1) (hN : N ≤ 1999999) (_hR : rightJ d (.mk 4 t ns l) = true) (hJ : JR w0 T (.mk 4 t ns l) x) (hB : B = w0.heap.size) (hb : Below B w0 W) (hI : BI B b acc W) (ha : acc.length + 64 * wJ (.mk 4 t ns l) ≤ 900000000) :
    Calls Tryd.prog 26 #[.pointer (some ⟨b, 0, none⟩), x] W (BWr B b (acc ++ printJ (.mk 4 t ns l)) W) := by
  have HPV : Hid (printJ (.mk 4 t ns l) = jqL t) := Lib.hid (by rw [printJ]; rfl)
  have hJ2 := hJ
  rw [JR] at hJ
  obtain ⟨nA, nc, lA, lc, rfl, _, _⟩ := hJ
  rw [HPV.out]
  rw [wJ] at hW ha
  have HAL : Hid (acc.length + 64 * (1 + t.length + nsW ns + wsJ l) ≤ 900000000 ∧ t.length ≤ 1999999) := Lib.hid ⟨ha, by omega⟩
  have S0 := WSt.start hI hb hB #[.int .i64 4, .string (bs t), .slice nA ns.length nc, .slice lA l.length lc]
  have HS0 := Lib.hid S0
  obtain ⟨nn, hnn⟩ : ∃ n, ns.length = n := ⟨_, rfl⟩
  obtain ⟨n, hn⟩ : ∃ n, l.length = n := ⟨_, rfl⟩
  rw [hnn, hn] at S0 HS0 ⊢
  clear S0 hnn hn
  have HJS : Hid (∀ V, Calls Tryd.prog 45 #[.string (bs t)] V fun e w' => e = .returned (.string (bs (jqL t))) ∧ Below V.heap.size V w') := Lib.hid (fun V => by
    have := json_any (bs t) V (by rw [bs_size]; have := HAL.out; omega)
    rw [bs_list] at this
    exact this)
  have HJQ := Lib.hid (jq_len t)
  clear hW ha hJ2 hI hb hB HPV
  go_enter Tryd.func26, Tryd.ntmps26
  go_wp2_with fail
  refine (HJS.out _).mono ?_
  rintro e w0' ⟨rfl, b5⟩
  have HS1 := Lib.hid (HS0.out.call b5)
  clear b5 HS0 HJS
  go_wp2_with fail
  refine (sbW7 B b acc (jqL t) _ HS1.out.bld (by have := HAL.out; have := HJQ.out; omega) HS1.out.le).mono ?_
  rintro e w1 ⟨rfl, g1, g2, g3⟩
  have HG := Lib.hid g1
  have HS4 := Lib.hid (HS1.out.step g1 g2 g3)
  clear g1 g2 g3 HS1
  go_wp2
  first | go_end0 | refine bodyPost_ret (results_none rfl _ _ _) rfl ?_
  exact ⟨rfl, HG.out, HS4.out.bw, HS4.out.oth⟩
set_option maxRecDepth 100000 in
set_option maxHeartbeats 2000000 in
theorem write5 {N : Nat} (IH : WriteC N) {T : Nat → Prop} {t : Bt} {ns : List Bt} {l : List JV} {x : Value} {w0 W : World} {B b d : Nat} {acc : Bt} (hW : wJ (.mk 5 t ns l) ≤ N + 1) (hN : N ≤ 1999999) (hR : rightJ d (.mk 5 t ns l) = true) (hJ : JR w0 T (.mk 5 t ns l) x) (hB : B = w0.heap.size) (hb : Below B w0 W) (hI : BI B b acc W) (ha : acc.length + 64 * wJ (.mk 5 t ns l) ≤ 900000000) :
    Calls Tryd.prog 26 #[.pointer (some ⟨b, 0, none⟩), x] W (BWr B b (acc ++ printJ (.mk 5 t ns l)) W) := by
  rw [right_five, Bool.and_eq_true] at hR
  obtain ⟨hR1, hR2⟩ := hR
  have hRR : rightsJ (d + 1) l = true := by
    unfold areB at hR2
    rw [Bool.and_eq_true] at hR2
    exact hR2.2
  have HPV : Hid (printJ (.mk 5 t ns l) = 91 :: (joinJ false ns l ++ [93])) := Lib.hid (by rw [printJ]; rfl)
  have hJ2 := hJ
  rw [JR] at hJ
  obtain ⟨nA, nc, lA, lc, rfl, _, _⟩ := hJ
  rw [HPV.out]
  rw [wJ] at hW ha
  have HAL : Hid (acc.length + 64 * (1 + t.length + nsW ns + wsJ l) ≤ 900000000 ∧ t.length ≤ 1999999) := Lib.hid ⟨ha, by omega⟩
  have S0 := WSt.start hI hb hB #[.int .i64 5, .string (bs t), .slice nA ns.length nc, .slice lA l.length lc]
  have HS0 := Lib.hid S0
  have HM := Lib.hid (fun (V : World) (h1 : Below B w0 V) (h2 : BI B b acc V) => memb5 IH (by omega) hN hRR hJ2 hB h1 h2 (by omega))
  obtain ⟨nn, hnn⟩ : ∃ n, ns.length = n := ⟨_, rfl⟩
  obtain ⟨n, hn⟩ : ∃ n, l.length = n := ⟨_, rfl⟩
  rw [hnn, hn] at S0 HS0 HM ⊢
  clear S0 hnn hn
  clear hW ha hJ2 hR1 hR2 hRR IH hI hb hB HPV
  go_enter Tryd.func26, Tryd.ntmps26
  go_wp2_with fail
  refine (HM.out _ HS0.out.below HS0.out.bld).mono ?_
  rintro e w1 ⟨rfl, g1, g2, g3⟩
  have HG := Lib.hid g1
  have HS4 := Lib.hid (HS0.out.step g1 g2 g3)
  clear g1 g2 g3 HS0
  go_wp2
  first | go_end0 | refine bodyPost_ret (results_none rfl _ _ _) rfl ?_
  exact ⟨rfl, HG.out, HS4.out.bw, HS4.out.oth⟩
set_option maxRecDepth 100000 in
set_option maxHeartbeats 2000000 in
theorem write6 {N : Nat} (IH : WriteC N) {T : Nat → Prop} {t : Bt} {ns : List Bt} {l : List JV} {x : Value} {w0 W : World} {B b d : Nat} {acc : Bt} (hW : wJ (.mk 6 t ns l) ≤ N + 1) (hN : N ≤ 1999999) (hR : rightJ d (.mk 6 t ns l) = true) (hJ : JR w0 T (.mk 6 t ns l) x) (hB : B = w0.heap.size) (hb : Below B w0 W) (hI : BI B b acc W) (ha : acc.length + 64 * wJ (.mk 6 t ns l) ≤ 900000000) :
    Calls Tryd.prog 26 #[.pointer (some ⟨b, 0, none⟩), x] W (BWr B b (acc ++ printJ (.mk 6 t ns l)) W) := by
  rw [right_six, Bool.and_eq_true] at hR
  obtain ⟨hR1, hR2⟩ := hR
  have hRR : rightsJ (d + 1) l = true := by
    unfold areB at hR2
    rw [Bool.and_eq_true] at hR2
    exact hR2.2
  have hnl : ns.length = l.length := by
    simp only [Bool.and_eq_true, decide_eq_true_eq] at hR1
    exact hR1.1.2
  have HPV : Hid (printJ (.mk 6 t ns l) = 123 :: (joinJ true ns l ++ [125])) := Lib.hid (by rw [printJ]; rfl)
  have hJ2 := hJ
  rw [JR] at hJ
  obtain ⟨nA, nc, lA, lc, rfl, _, _⟩ := hJ
  rw [HPV.out]
  rw [wJ] at hW ha
  have HAL : Hid (acc.length + 64 * (1 + t.length + nsW ns + wsJ l) ≤ 900000000 ∧ t.length ≤ 1999999) := Lib.hid ⟨ha, by omega⟩
  have S0 := WSt.start hI hb hB #[.int .i64 6, .string (bs t), .slice nA ns.length nc, .slice lA l.length lc]
  have HS0 := Lib.hid S0
  have HM := Lib.hid (fun (V : World) (h1 : Below B w0 V) (h2 : BI B b acc V) => memb6 IH (by omega) hN hRR hnl hJ2 hB h1 h2 (by omega))
  obtain ⟨nn, hnn⟩ : ∃ n, ns.length = n := ⟨_, rfl⟩
  obtain ⟨n, hn⟩ : ∃ n, l.length = n := ⟨_, rfl⟩
  rw [hnn, hn] at S0 HS0 HM ⊢
  clear S0 hnn hn
  clear hW ha hJ2 hR1 hR2 hRR IH hI hb hB HPV hnl
  go_enter Tryd.func26, Tryd.ntmps26
  go_wp2_with fail
  refine (HM.out _ HS0.out.below HS0.out.bld).mono ?_
  rintro e w1 ⟨rfl, g1, g2, g3⟩
  have HG := Lib.hid g1
  have HS4 := Lib.hid (HS0.out.step g1 g2 g3)
  clear g1 g2 g3 HS0
  go_wp2
  first | go_end0 | refine bodyPost_ret (results_none rfl _ _ _) rfl ?_
  exact ⟨rfl, HG.out, HS4.out.bw, HS4.out.oth⟩
theorem write_all : ∀ N, N ≤ 2000000 → WriteC N
  | 0, _ => fun T v x w0 W B b d acc hW _ _ _ _ _ _ => by have := wJ_pos v; omega
  | N + 1, hN => fun T v x w0 W B b d acc hW hR hJ hB hb hI ha => by
    have IH := write_all N (by omega)
    obtain ⟨k, t, ns, l⟩ := v
    by_cases hk : k < 0 ∨ 6 < k
    · rw [right_else hk] at hR; cases hR
    have hk7 : k = 0 ∨ k = 1 ∨ k = 2 ∨ k = 3 ∨ k = 4 ∨ k = 5 ∨ k = 6 := by omega
    rcases hk7 with rfl | rfl | rfl | rfl | rfl | rfl | rfl
    · exact write0 IH hW (by omega) hR hJ hB hb hI ha
    · exact write1 IH hW (by omega) hR hJ hB hb hI ha
    · exact write2 IH hW (by omega) hR hJ hB hb hI ha
    · exact write3 IH hW (by omega) hR hJ hB hb hI ha
    · exact write4 IH hW (by omega) hR hJ hB hb hI ha
    · exact write5 IH hW (by omega) hR hJ hB hb hI ha
    · exact write6 IH hW (by omega) hR hJ hB hb hI ha
/-- What is printed, and the error. -/
def prS (v : JV) : Bt := if rightJ 0 v then printJ v else []
def prE (v : JV) : Int := if rightJ 0 v then 0 else 2
set_option maxRecDepth 100000 in
set_option maxHeartbeats 2000000 in
theorem print_any {T : Nat → Prop} {v : JV} {x : Value} {w : World} (hJ : JR w T v x) (hW : wJ v ≤ 2000000) (hT : Tabs w) :
    Calls Tryd.prog 16 #[x] w fun e w' => e = .returned (.tuple #[.string (bs (prS v)), .int .i64 (prE v)]) ∧ Below w.heap.size w w' := by
  obtain ⟨x0, x1, x2, x3, rfl, _⟩ := jr_one hJ
  obtain ⟨k, s, nA, nn, nc, lA, n, lc, rfl, rfl, rfl, rfl⟩ := jr_form hJ
  have B0 : Below w.heap.size w (w.alloc (.cells #[.int .i64 k, .string s, .slice nA nn nc, .slice lA n lc] TJ)) := (Below.refl _ _).alloc (Nat.le_refl _) _
  have HB0 := Lib.hid B0
  have HC := Lib.hid (pright_all 2000000 (Nat.le_refl _) T v _ 0 24 _ hW (hJ.below B0) (hT.off (Off.of_below B0) (fun h => h) (fun h => h)) (by decide) (by decide))
  have HJ := Lib.hid hJ
  have HW := Lib.hid hW
  obtain ⟨q, hq⟩ : ∃ q, rightJ 0 v = q := ⟨_, rfl⟩
  rw [hq] at HC
  have HQ := Lib.hid hq
  clear hJ hW hT B0 hq
  cases q with
  | false =>
    have HE : Hid (prS v = [] ∧ prE v = 2) := Lib.hid (by unfold prS prE; rw [HQ.out]; exact ⟨rfl, rfl⟩)
    rw [HE.out.1, HE.out.2]
    go_enter Tryd.func16, Tryd.ntmps16
    go_wp2_with fail
    refine HC.out.mono ?_
    clear HC
    rintro e w1 ⟨rfl, b1⟩
    go_wp2
    go_ret2
    exact ⟨rfl, HB0.out.trans (b1.mono HB0.out.size)⟩
  | true =>
    have HE : Hid (prS v = printJ v ∧ prE v = 0) := Lib.hid (by unfold prS prE; rw [HQ.out]; exact ⟨rfl, rfl⟩)
    rw [HE.out.1, HE.out.2]
    go_enter Tryd.func16, Tryd.ntmps16
    go_wp2_with fail
    refine HC.out.mono ?_
    clear HC
    rintro e w1 ⟨rfl, b1⟩
    obtain ⟨g0, g1, g2, g3⟩ := box4 _ _ _ _ _ _ _ _ w w1 (by simpa using b1)
    have B1 : Below w.heap.size w w1 := HB0.out.trans (b1.mono HB0.out.size)
    have HB1 := Lib.hid B1
    have hFB : BI w1.heap.size w1.heap.size [] (w1.alloc (.cells #[.pointer none, .slice none 0 0] 61)) := Lib.IsBuilderF.of (Lib.fresh_isBuilder 61 5 w1)
    have b2 : Below w1.heap.size w1 (w1.alloc (.cells #[.pointer none, .slice none 0 0] 61)) := (Below.refl _ _).alloc (Nat.le_refl _) _
    have h0 : w.heap.size < w1.heap.size := by have := b1.size; simp at this; omega
    have HWR := Lib.hid (write_all 2000000 (Nat.le_refl _) T v _ w1 _ w1.heap.size w1.heap.size 0 [] HW.out HQ.out (HJ.out.below B1) rfl b2 hFB (by have := HW.out; simp; omega))
    have HFB := Lib.hid hFB
    have HB2 := Lib.hid b2
    clear b1 B1 hFB b2
    go_wp2_with fail
    refine HWR.out.mono ?_
    clear HWR
    rintro e w2 ⟨rfl, j1, j2, j3⟩
    have HJ2 := Lib.hid (HB2.out.trans j2)
    have HJ1 := Lib.hid j1
    clear j1 j2 j3 HB2 HFB
    go_wp2_with fail
    refine (sbString w1.heap.size w1.heap.size (printJ v) _ (Or.inr HJ1.out) HJ2.out.size).mono ?_
    rintro e w3 ⟨rfl, _, b3, _⟩
    have HB3 := Lib.hid (HJ2.out.trans b3)
    clear b3
    go_wp2
    go_ret2
    exact ⟨rfl, HB1.out.trans (HB3.out.mono HB1.out.size)⟩
end Go.Proofs.YtchgelfomnbpaaaDoor
