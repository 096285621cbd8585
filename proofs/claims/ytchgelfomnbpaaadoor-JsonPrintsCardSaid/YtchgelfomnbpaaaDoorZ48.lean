/-
  The document's Print of values of JSON that are right. No conditions.
-/
import Derived.Test.YtchgelfomnbpaaaDoorZ20
import Derived.Test.YtchgelfomnbpaaaDoorZ26
import Derived.Test.YtchgelfomnbpaaaDoorZ34
import Derived.Test.YtchgelfomnbpaaaDoorZ47
namespace Go.Proofs.YtchgelfomnbpaaaDoor
open Go.RowKit
open Go.Lib

theorem bs_appQ (a b : Bt) : bs a ++ bs b = bs (a ++ b) := by
  apply ByteArray.ext
  simp [bs]
theorem addQ (a b : Bt) (h : a.length + b.length ≤ 9223372036854775807) (r : Bt) (hr : a ++ b = r) (W : World) : (Op.stringOp .add (bs a) (bs b)).run Tryd.prog W = .ok (.string (bs r)) W := by
  rw [run_string_add_sum W _ _ (by rw [bs_size, bs_size]; exact h), bs_appQ, hr]
theorem wsJ_le : ∀ (l : List JV) (j : Nat), wsJ (l.take j) ≤ wsJ l
  | [], j => by simp
  | v :: l, 0 => by simp only [List.take_zero]; rw [wsJ]; omega
  | v :: l, j + 1 => by
    have := wsJ_le l j
    rw [List.take_succ_cons, wsJ, wsJ]
    omega
theorem jq_any (nm : Bt) (w : World) (hs : nm.length ≤ 200000) : Calls Tryd.prog 30 #[.string (bs nm)] w fun e w' => e = .returned (.string (bs (jqL nm))) ∧ Below w.heap.size w w' := by
  have h := rjson_any (bs nm) w (by rw [bs_size]; exact hs)
  have e : jsonL (bs nm).data.toList = jqL nm := by rw [bs_list]; rfl
  rw [e] at h
  exact h
/-- What the document's Print answers. -/
def RPrintC (N : Nat) : Prop := ∀ (T : Nat → Prop) (v : JV) (x : Value) (d : Nat) (w : World), wJ v ≤ N → rightJ d v = true → JR w T v x → Calls Tryd.prog 18 #[x] w fun e w' => e = .returned (.string (bs (printJ v))) ∧ Below w.heap.size w w'
set_option maxRecDepth 100000 in
set_option maxHeartbeats 2000000 in
theorem rprint0 {N : Nat} (IH : RPrintC N) {T : Nat → Prop} {t : Bt} {ns : List Bt} {l : List JV} {x : Value} {d : Nat} {w : World} (hW : wJ (.mk 0 t ns l) ≤ N + 1) (hN : N ≤ 99999) (hR : rightJ d (.mk 0 t ns l) = true) (hJ : JR w T (.mk 0 t ns l) x) :
    Calls Tryd.prog 18 #[x] w fun e w' => e = .returned (.string (bs (printJ (.mk 0 t ns l)))) ∧ Below w.heap.size w w' := by
  have HRR := Lib.hid hR
  rw [wJ] at hW
  rw [JR] at hJ
  obtain ⟨nA, nc, lA, lc, rfl, hTx, hL⟩ := hJ
  have HIH := Lib.hid IH
  have HTX := Lib.hid hTx
  have HL := Lib.hid hL
  have HNL : Hid (wsJ l ≤ N ∧ nsW ns ≤ N + 1 ∧ t.length ≤ 100000 ∧ N ≤ 99999) := Lib.hid ⟨by omega, by omega, by omega, hN⟩
  have hn9 : l.length ≤ 1000000 := by have := wsJ_len l; omega
  clear hTx hL hW hN IH hR
  obtain ⟨nn, hnn⟩ : ∃ n, ns.length = n := ⟨_, rfl⟩
  obtain ⟨n, hn⟩ : ∃ n, l.length = n := ⟨_, rfl⟩
  rw [hnn, hn]
  rw [hn] at hn9
  have HNN := Lib.hid hnn
  have HN := Lib.hid hn
  clear hnn hn
  obtain ⟨S, hS⟩ : ∃ s, bs t = s := ⟨_, rfl⟩
  have HS := Lib.hid hS
  rw [hS]
  clear hS
  obtain ⟨B, hB⟩ : ∃ B, w.heap.size = B := ⟨_, rfl⟩
  obtain ⟨w1, hw1⟩ : ∃ W, w.alloc (.cells #[.int .i64 0, .string S, .slice nA nn nc, .slice lA n lc] TJ) = W := ⟨_, rfl⟩
  have HB1 : Hid (Below w.heap.size w w1) := Lib.hid (by rw [← hw1]; exact (Below.refl _ _).alloc (Nat.le_refl _) _)
  have HX1 : Hid (J4 B (.int .i64 0) (.string S) (.slice nA nn nc) (.slice lA n lc) w1) := Lib.hid (by rw [← hw1, ← hB]; exact Blk.new _ w)
  have e0 := HX1.out.c0
  have e1 := HX1.out.c1
  have e2 := HX1.out.c2
  have e3 := HX1.out.c3
  have HP : Hid (printJ (.mk 0 t ns l) = nullW) := Lib.hid (by rw [printJ]; rfl)
  obtain ⟨D, hD⟩ : ∃ D, w1.heap.size = D := ⟨_, rfl⟩
  obtain ⟨wB, hwB⟩ : ∃ W, w1.alloc (.cells #[.string ⟨#[110, 117, 108, 108]⟩, .string ⟨#[102, 97, 108, 115, 101]⟩, .string ⟨#[116, 114, 117, 101]⟩] 9) = W := ⟨_, rfl⟩
  have hbb : Below w1.heap.size w1 wB := by rw [← hwB]; exact (Below.refl _ _).alloc (Nat.le_refl _) _
  have HBB := Lib.hid (HB1.out.trans (hbb.mono HB1.out.size))
  have f0 := (HX1.out.below hbb).c0
  have hblk : Blk D (.cells #[.string ⟨#[110, 117, 108, 108]⟩, .string ⟨#[102, 97, 108, 115, 101]⟩, .string ⟨#[116, 114, 117, 101]⟩] 9 (0, 0)) wB := by rw [← hwB, ← hD]; exact Blk.new _ w1
  have t0 := hblk.cell 0
  clear hbb hblk
  go_enter Tryd.func18, Tryd.ntmps18
  go_wp2
  go_ret
  exact ⟨by rw [HP.out]; rfl, HBB.out⟩
set_option maxRecDepth 100000 in
set_option maxHeartbeats 2000000 in
theorem rprint1 {N : Nat} (IH : RPrintC N) {T : Nat → Prop} {t : Bt} {ns : List Bt} {l : List JV} {x : Value} {d : Nat} {w : World} (hW : wJ (.mk 1 t ns l) ≤ N + 1) (hN : N ≤ 99999) (hR : rightJ d (.mk 1 t ns l) = true) (hJ : JR w T (.mk 1 t ns l) x) :
    Calls Tryd.prog 18 #[x] w fun e w' => e = .returned (.string (bs (printJ (.mk 1 t ns l)))) ∧ Below w.heap.size w w' := by
  have HRR := Lib.hid hR
  rw [wJ] at hW
  rw [JR] at hJ
  obtain ⟨nA, nc, lA, lc, rfl, hTx, hL⟩ := hJ
  have HIH := Lib.hid IH
  have HTX := Lib.hid hTx
  have HL := Lib.hid hL
  have HNL : Hid (wsJ l ≤ N ∧ nsW ns ≤ N + 1 ∧ t.length ≤ 100000 ∧ N ≤ 99999) := Lib.hid ⟨by omega, by omega, by omega, hN⟩
  have hn9 : l.length ≤ 1000000 := by have := wsJ_len l; omega
  clear hTx hL hW hN IH hR
  obtain ⟨nn, hnn⟩ : ∃ n, ns.length = n := ⟨_, rfl⟩
  obtain ⟨n, hn⟩ : ∃ n, l.length = n := ⟨_, rfl⟩
  rw [hnn, hn]
  rw [hn] at hn9
  have HNN := Lib.hid hnn
  have HN := Lib.hid hn
  clear hnn hn
  obtain ⟨S, hS⟩ : ∃ s, bs t = s := ⟨_, rfl⟩
  have HS := Lib.hid hS
  rw [hS]
  clear hS
  obtain ⟨B, hB⟩ : ∃ B, w.heap.size = B := ⟨_, rfl⟩
  obtain ⟨w1, hw1⟩ : ∃ W, w.alloc (.cells #[.int .i64 1, .string S, .slice nA nn nc, .slice lA n lc] TJ) = W := ⟨_, rfl⟩
  have HB1 : Hid (Below w.heap.size w w1) := Lib.hid (by rw [← hw1]; exact (Below.refl _ _).alloc (Nat.le_refl _) _)
  have HX1 : Hid (J4 B (.int .i64 1) (.string S) (.slice nA nn nc) (.slice lA n lc) w1) := Lib.hid (by rw [← hw1, ← hB]; exact Blk.new _ w)
  have e0 := HX1.out.c0
  have e1 := HX1.out.c1
  have e2 := HX1.out.c2
  have e3 := HX1.out.c3
  have HP : Hid (printJ (.mk 1 t ns l) = falseW) := Lib.hid (by rw [printJ]; rfl)
  obtain ⟨D, hD⟩ : ∃ D, w1.heap.size = D := ⟨_, rfl⟩
  obtain ⟨wB, hwB⟩ : ∃ W, w1.alloc (.cells #[.string ⟨#[110, 117, 108, 108]⟩, .string ⟨#[102, 97, 108, 115, 101]⟩, .string ⟨#[116, 114, 117, 101]⟩] 9) = W := ⟨_, rfl⟩
  have hbb : Below w1.heap.size w1 wB := by rw [← hwB]; exact (Below.refl _ _).alloc (Nat.le_refl _) _
  have HBB := Lib.hid (HB1.out.trans (hbb.mono HB1.out.size))
  have f0 := (HX1.out.below hbb).c0
  have hblk : Blk D (.cells #[.string ⟨#[110, 117, 108, 108]⟩, .string ⟨#[102, 97, 108, 115, 101]⟩, .string ⟨#[116, 114, 117, 101]⟩] 9 (0, 0)) wB := by rw [← hwB, ← hD]; exact Blk.new _ w1
  have t0 := hblk.cell 1
  clear hbb hblk
  go_enter Tryd.func18, Tryd.ntmps18
  go_wp2
  go_ret
  exact ⟨by rw [HP.out]; rfl, HBB.out⟩
set_option maxRecDepth 100000 in
set_option maxHeartbeats 2000000 in
theorem rprint2 {N : Nat} (IH : RPrintC N) {T : Nat → Prop} {t : Bt} {ns : List Bt} {l : List JV} {x : Value} {d : Nat} {w : World} (hW : wJ (.mk 2 t ns l) ≤ N + 1) (hN : N ≤ 99999) (hR : rightJ d (.mk 2 t ns l) = true) (hJ : JR w T (.mk 2 t ns l) x) :
    Calls Tryd.prog 18 #[x] w fun e w' => e = .returned (.string (bs (printJ (.mk 2 t ns l)))) ∧ Below w.heap.size w w' := by
  have HRR := Lib.hid hR
  rw [wJ] at hW
  rw [JR] at hJ
  obtain ⟨nA, nc, lA, lc, rfl, hTx, hL⟩ := hJ
  have HIH := Lib.hid IH
  have HTX := Lib.hid hTx
  have HL := Lib.hid hL
  have HNL : Hid (wsJ l ≤ N ∧ nsW ns ≤ N + 1 ∧ t.length ≤ 100000 ∧ N ≤ 99999) := Lib.hid ⟨by omega, by omega, by omega, hN⟩
  have hn9 : l.length ≤ 1000000 := by have := wsJ_len l; omega
  clear hTx hL hW hN IH hR
  obtain ⟨nn, hnn⟩ : ∃ n, ns.length = n := ⟨_, rfl⟩
  obtain ⟨n, hn⟩ : ∃ n, l.length = n := ⟨_, rfl⟩
  rw [hnn, hn]
  rw [hn] at hn9
  have HNN := Lib.hid hnn
  have HN := Lib.hid hn
  clear hnn hn
  obtain ⟨S, hS⟩ : ∃ s, bs t = s := ⟨_, rfl⟩
  have HS := Lib.hid hS
  rw [hS]
  clear hS
  obtain ⟨B, hB⟩ : ∃ B, w.heap.size = B := ⟨_, rfl⟩
  obtain ⟨w1, hw1⟩ : ∃ W, w.alloc (.cells #[.int .i64 2, .string S, .slice nA nn nc, .slice lA n lc] TJ) = W := ⟨_, rfl⟩
  have HB1 : Hid (Below w.heap.size w w1) := Lib.hid (by rw [← hw1]; exact (Below.refl _ _).alloc (Nat.le_refl _) _)
  have HX1 : Hid (J4 B (.int .i64 2) (.string S) (.slice nA nn nc) (.slice lA n lc) w1) := Lib.hid (by rw [← hw1, ← hB]; exact Blk.new _ w)
  have e0 := HX1.out.c0
  have e1 := HX1.out.c1
  have e2 := HX1.out.c2
  have e3 := HX1.out.c3
  have HP : Hid (printJ (.mk 2 t ns l) = trueW) := Lib.hid (by rw [printJ]; rfl)
  obtain ⟨D, hD⟩ : ∃ D, w1.heap.size = D := ⟨_, rfl⟩
  obtain ⟨wB, hwB⟩ : ∃ W, w1.alloc (.cells #[.string ⟨#[110, 117, 108, 108]⟩, .string ⟨#[102, 97, 108, 115, 101]⟩, .string ⟨#[116, 114, 117, 101]⟩] 9) = W := ⟨_, rfl⟩
  have hbb : Below w1.heap.size w1 wB := by rw [← hwB]; exact (Below.refl _ _).alloc (Nat.le_refl _) _
  have HBB := Lib.hid (HB1.out.trans (hbb.mono HB1.out.size))
  have f0 := (HX1.out.below hbb).c0
  have hblk : Blk D (.cells #[.string ⟨#[110, 117, 108, 108]⟩, .string ⟨#[102, 97, 108, 115, 101]⟩, .string ⟨#[116, 114, 117, 101]⟩] 9 (0, 0)) wB := by rw [← hwB, ← hD]; exact Blk.new _ w1
  have t0 := hblk.cell 2
  clear hbb hblk
  go_enter Tryd.func18, Tryd.ntmps18
  go_wp2
  go_ret
  exact ⟨by rw [HP.out]; rfl, HBB.out⟩
set_option maxRecDepth 100000 in
set_option maxHeartbeats 2000000 in
theorem rprint3 {N : Nat} (IH : RPrintC N) {T : Nat → Prop} {t : Bt} {ns : List Bt} {l : List JV} {x : Value} {d : Nat} {w : World} (hW : wJ (.mk 3 t ns l) ≤ N + 1) (hN : N ≤ 99999) (hR : rightJ d (.mk 3 t ns l) = true) (hJ : JR w T (.mk 3 t ns l) x) :
    Calls Tryd.prog 18 #[x] w fun e w' => e = .returned (.string (bs (printJ (.mk 3 t ns l)))) ∧ Below w.heap.size w w' := by
  have HRR := Lib.hid hR
  rw [wJ] at hW
  rw [JR] at hJ
  obtain ⟨nA, nc, lA, lc, rfl, hTx, hL⟩ := hJ
  have HIH := Lib.hid IH
  have HTX := Lib.hid hTx
  have HL := Lib.hid hL
  have HNL : Hid (wsJ l ≤ N ∧ nsW ns ≤ N + 1 ∧ t.length ≤ 100000 ∧ N ≤ 99999) := Lib.hid ⟨by omega, by omega, by omega, hN⟩
  have hn9 : l.length ≤ 1000000 := by have := wsJ_len l; omega
  clear hTx hL hW hN IH hR
  obtain ⟨nn, hnn⟩ : ∃ n, ns.length = n := ⟨_, rfl⟩
  obtain ⟨n, hn⟩ : ∃ n, l.length = n := ⟨_, rfl⟩
  rw [hnn, hn]
  rw [hn] at hn9
  have HNN := Lib.hid hnn
  have HN := Lib.hid hn
  clear hnn hn
  obtain ⟨S, hS⟩ : ∃ s, bs t = s := ⟨_, rfl⟩
  have HS := Lib.hid hS
  rw [hS]
  clear hS
  obtain ⟨B, hB⟩ : ∃ B, w.heap.size = B := ⟨_, rfl⟩
  obtain ⟨w1, hw1⟩ : ∃ W, w.alloc (.cells #[.int .i64 3, .string S, .slice nA nn nc, .slice lA n lc] TJ) = W := ⟨_, rfl⟩
  have HB1 : Hid (Below w.heap.size w w1) := Lib.hid (by rw [← hw1]; exact (Below.refl _ _).alloc (Nat.le_refl _) _)
  have HX1 : Hid (J4 B (.int .i64 3) (.string S) (.slice nA nn nc) (.slice lA n lc) w1) := Lib.hid (by rw [← hw1, ← hB]; exact Blk.new _ w)
  have e0 := HX1.out.c0
  have e1 := HX1.out.c1
  have e2 := HX1.out.c2
  have e3 := HX1.out.c3
  have HP : Hid (printJ (.mk 3 t ns l) = t) := Lib.hid (by rw [printJ]; rfl)
  go_enter Tryd.func18, Tryd.ntmps18
  go_wp2
  go_ret
  exact ⟨by rw [HP.out, HS.out]; rfl, HB1.out⟩
set_option maxRecDepth 100000 in
set_option maxHeartbeats 2000000 in
theorem rprint4 {N : Nat} (IH : RPrintC N) {T : Nat → Prop} {t : Bt} {ns : List Bt} {l : List JV} {x : Value} {d : Nat} {w : World} (hW : wJ (.mk 4 t ns l) ≤ N + 1) (hN : N ≤ 99999) (hR : rightJ d (.mk 4 t ns l) = true) (hJ : JR w T (.mk 4 t ns l) x) :
    Calls Tryd.prog 18 #[x] w fun e w' => e = .returned (.string (bs (printJ (.mk 4 t ns l)))) ∧ Below w.heap.size w w' := by
  have HRR := Lib.hid hR
  rw [wJ] at hW
  rw [JR] at hJ
  obtain ⟨nA, nc, lA, lc, rfl, hTx, hL⟩ := hJ
  have HIH := Lib.hid IH
  have HTX := Lib.hid hTx
  have HL := Lib.hid hL
  have HNL : Hid (wsJ l ≤ N ∧ nsW ns ≤ N + 1 ∧ t.length ≤ 100000 ∧ N ≤ 99999) := Lib.hid ⟨by omega, by omega, by omega, hN⟩
  have hn9 : l.length ≤ 1000000 := by have := wsJ_len l; omega
  clear hTx hL hW hN IH hR
  obtain ⟨nn, hnn⟩ : ∃ n, ns.length = n := ⟨_, rfl⟩
  obtain ⟨n, hn⟩ : ∃ n, l.length = n := ⟨_, rfl⟩
  rw [hnn, hn]
  rw [hn] at hn9
  have HNN := Lib.hid hnn
  have HN := Lib.hid hn
  clear hnn hn
  obtain ⟨S, hS⟩ : ∃ s, bs t = s := ⟨_, rfl⟩
  have HS := Lib.hid hS
  rw [hS]
  clear hS
  obtain ⟨B, hB⟩ : ∃ B, w.heap.size = B := ⟨_, rfl⟩
  obtain ⟨w1, hw1⟩ : ∃ W, w.alloc (.cells #[.int .i64 4, .string S, .slice nA nn nc, .slice lA n lc] TJ) = W := ⟨_, rfl⟩
  have HB1 : Hid (Below w.heap.size w w1) := Lib.hid (by rw [← hw1]; exact (Below.refl _ _).alloc (Nat.le_refl _) _)
  have HX1 : Hid (J4 B (.int .i64 4) (.string S) (.slice nA nn nc) (.slice lA n lc) w1) := Lib.hid (by rw [← hw1, ← hB]; exact Blk.new _ w)
  have e0 := HX1.out.c0
  have e1 := HX1.out.c1
  have e2 := HX1.out.c2
  have e3 := HX1.out.c3
  have HP : Hid (printJ (.mk 4 t ns l) = jqL t) := Lib.hid (by rw [printJ]; rfl)
  have HC := jq_any t w1 (by have := HNL.out.2.2.1; omega)
  rw [HS.out] at HC
  have HC := Lib.hid HC
  go_enter Tryd.func18, Tryd.ntmps18
  go_wp2_with (go_at_call 30; (with_reducible refine HC.out.mono ?_); rintro e w2 ⟨rfl, b2⟩; have HB2 := Lib.hid (HB1.out.trans (b2.mono HB1.out.size)); clear b2)
  go_ret
  exact ⟨by rw [HP.out]; rfl, HB2.out⟩
set_option maxRecDepth 100000 in
set_option maxHeartbeats 2000000 in
theorem rprint5 {N : Nat} (IH : RPrintC N) {T : Nat → Prop} {t : Bt} {ns : List Bt} {l : List JV} {x : Value} {d : Nat} {w : World} (hW : wJ (.mk 5 t ns l) ≤ N + 1) (hN : N ≤ 99999) (hR : rightJ d (.mk 5 t ns l) = true) (hJ : JR w T (.mk 5 t ns l) x) :
    Calls Tryd.prog 18 #[x] w fun e w' => e = .returned (.string (bs (printJ (.mk 5 t ns l)))) ∧ Below w.heap.size w w' := by
  have HRR := Lib.hid hR
  rw [wJ] at hW
  rw [JR] at hJ
  obtain ⟨nA, nc, lA, lc, rfl, hTx, hL⟩ := hJ
  have HIH := Lib.hid IH
  have HTX := Lib.hid hTx
  have HL := Lib.hid hL
  have HNL : Hid (wsJ l ≤ N ∧ nsW ns ≤ N + 1 ∧ t.length ≤ 100000 ∧ N ≤ 99999) := Lib.hid ⟨by omega, by omega, by omega, hN⟩
  have hn9 : l.length ≤ 1000000 := by have := wsJ_len l; omega
  clear hTx hL hW hN IH hR
  obtain ⟨nn, hnn⟩ : ∃ n, ns.length = n := ⟨_, rfl⟩
  obtain ⟨n, hn⟩ : ∃ n, l.length = n := ⟨_, rfl⟩
  rw [hnn, hn]
  rw [hn] at hn9
  have HNN := Lib.hid hnn
  have HN := Lib.hid hn
  clear hnn hn
  obtain ⟨S, hS⟩ : ∃ s, bs t = s := ⟨_, rfl⟩
  have HS := Lib.hid hS
  rw [hS]
  clear hS
  obtain ⟨B, hB⟩ : ∃ B, w.heap.size = B := ⟨_, rfl⟩
  obtain ⟨w1, hw1⟩ : ∃ W, w.alloc (.cells #[.int .i64 5, .string S, .slice nA nn nc, .slice lA n lc] TJ) = W := ⟨_, rfl⟩
  have HB1 : Hid (Below w.heap.size w w1) := Lib.hid (by rw [← hw1]; exact (Below.refl _ _).alloc (Nat.le_refl _) _)
  have HX1 : Hid (J4 B (.int .i64 5) (.string S) (.slice nA nn nc) (.slice lA n lc) w1) := Lib.hid (by rw [← hw1, ← hB]; exact Blk.new _ w)
  have e0 := HX1.out.c0
  have e1 := HX1.out.c1
  have e2 := HX1.out.c2
  have e3 := HX1.out.c3
  have HRS : Hid (∃ e, rightsJ e l = true) := Lib.hid (by
    have := HRR.out
    rw [right_five] at this
    simp only [Bool.and_eq_true, areB] at this
    exact ⟨_, this.2.2⟩)
  have HP : Hid (printJ (.mk 5 t ns l) = 91 :: (joinJ false ns l ++ [93])) := Lib.hid (by rw [printJ]; rfl)
  go_enter Tryd.func18, Tryd.ntmps18
  go_wp2
  go_loopw [3, 28] (fun s i wr => ∃ j : Nat, j ≤ n ∧ i = .int .i64 j ∧ s = .string (bs (joinJ false ns (l.take j))) ∧ Hid (Below w.heap.size w wr ∧ J4 B (.int .i64 5) (.string S) (.slice nA nn nc) (.slice lA n lc) wr)) (fun _ i _ => n - (RowKit.intOf i).toNat)
  case atStart => exact ⟨0, Nat.zero_le _, rfl, by rw [List.take_zero, joinJ]; rfl, Lib.hid ⟨HB1.out, HX1.out⟩⟩
  case round =>
    clear e0 e1 e2 e3
    obtain ⟨j, hj, rfl, rfl, HW⟩ := hrel
    obtain ⟨s0, hs0⟩ : ∃ s, joinJ false ns (l.take j) = s := ⟨_, rfl⟩
    have HS0 := Lib.hid hs0
    have HSL : Hid (s0.length ≤ 10000000) := Lib.hid (by
      have h1 := join_len false ns (l.take j)
      have h2 := wsJ_le l j
      have h3 := HNL.out
      rw [hs0] at h1
      omega)
    rw [hs0]
    clear hs0
    have e0 := HW.out.2.c0
    have e1 := HW.out.2.c1
    have e2 := HW.out.2.c2
    have e3 := HW.out.2.c3
    by_cases hjn : j < n
    · have hjl : j < l.length := by rw [HN.out]; exact hjn
      have hj1 : (j : Int) < (n : Int) := by omega
      obtain ⟨b, off, rfl, _, hbw, hJl⟩ := HL.out (by omega)
      obtain ⟨x0, x1, x2, x3, c0, c1, c2, c3, hJ⟩ := hJl.at j hjl
      obtain ⟨k', s', nA', nn', nc', lA', ln', lc', rfl, rfl, rfl, rfl⟩ := jr_form hJ
      have y0 := (HW.out.1.cell (p := ⟨b, off + j * 4, none⟩) hbw).trans c0
      have y1 := (HW.out.1.cell (p := ⟨b, off + j * 4 + 1, none⟩) hbw).trans c1
      have y2 := (HW.out.1.cell (p := ⟨b, off + j * 4 + 2, none⟩) hbw).trans c2
      have y3 := (HW.out.1.cell (p := ⟨b, off + j * 4 + 3, none⟩) hbw).trans c3
      obtain ⟨P, hP⟩ : ∃ q, printJ l[j] = q := ⟨_, rfl⟩
      have HPL : Hid (P.length ≤ 10000000) := Lib.hid (by
        have h1 := print_len l[j]
        have h2 := wsJ_at l j hjl
        have h3 := HNL.out
        rw [hP] at h1
        omega)
      have HRJ : Hid (∃ e, rightJ e l[j] = true) := Lib.hid (by
        obtain ⟨e, he⟩ := HRS.out
        refine ⟨e, ?_⟩
        cases h : rightJ e l[j] with
        | true => rfl
        | false => rw [rights_some hjl h] at he; cases he)
      have HC : Hid (∀ W, Below w.heap.size w W → Calls Tryd.prog 18 #[.agg #[.int .i64 k', .string s', .slice nA' nn' nc', .slice lA' ln' lc']] W fun e w' => e = .returned (.string (bs P)) ∧ Below W.heap.size W w') := Lib.hid (fun W h => by
        rw [← hP]
        obtain ⟨e, he⟩ := HRJ.out
        exact HIH.out T l[j] _ e W (by have := wsJ_at l j hjl; have := HNL.out.1; omega) he (hJ.below h))
      have HTK := Lib.hid (join_take false l ns j hjl)
      rw [HS0.out] at HTK
      unfold memJ at HTK
      rw [hP] at HTK
      obtain ⟨E, hE⟩ : ∃ E, wr.heap.size = E := ⟨_, rfl⟩
      obtain ⟨wA, hwA⟩ : ∃ W, wr.alloc (.cells #[.int .i64 k', .string s', .slice nA' nn' nc', .slice lA' ln' lc'] TJ) = W := ⟨_, rfl⟩
      have hba : Below wr.heap.size wr wA := by rw [← hwA]; exact (Below.refl _ _).alloc (Nat.le_refl _) _
      have HBA : Hid (Below w.heap.size w wA) := Lib.hid (HW.out.1.trans (hba.mono HW.out.1.size))
      have HXA : Hid (J4 B (.int .i64 5) (.string S) (.slice nA nn nc) (.slice (some ⟨b, off, none⟩) n lc) wA) := Lib.hid (HW.out.2.below hba)
      have HEA : Hid (J4 E (.int .i64 k') (.string s') (.slice nA' nn' nc') (.slice lA' ln' lc') wA) := Lib.hid (by rw [← hwA, ← hE]; exact Blk.new _ wr)
      have n0 := HEA.out.c0
      have n1 := HEA.out.c1
      have n2 := HEA.out.c2
      have n3 := HEA.out.c3
      have f0 := HXA.out.c0
      have f1 := HXA.out.c1
      have f2 := HXA.out.c2
      have f3 := HXA.out.c3
      clear c0 c1 c2 c3 hJ hJl hP hba
      by_cases hz0 : j = 0
      · have hjz : ¬ (0 : Int) < (j : Int) := by omega
        have h1l : s0.length ≤ 10000001 := by have := HSL.out; omega
        have h3l := h1l
        have a4 := addQ s0 P (by have := HPL.out; omega) _ rfl
        have HNX : Hid (joinJ false ns (l.take (j + 1)) = s0 ++ P) := Lib.hid (by rw [HTK.out, if_pos hz0]; simp)
        clear h1l h3l
        clear hz0
        go_wp2_with (go_at_call 18; (with_reducible refine (HC.out _ HBA.out).mono ?_); rintro e w5 ⟨rfl, b5⟩; have HB5 := Lib.hid (HBA.out.trans (b5.mono HBA.out.size)); have HX5 := Lib.hid (HXA.out.below b5); clear b5)
        exact ⟨⟨j + 1, by omega, rfl, by rw [HNX.out], Lib.hid ⟨HB5.out, HX5.out⟩⟩, by show n - ((j : Int) + 1).toNat < n - (j : Int).toNat; omega⟩
      · have hjz : (0 : Int) < (j : Int) := by omega
        have a1 : ∀ W, (Op.stringOp .add (bs s0) ⟨#[44]⟩).run Tryd.prog W = .ok (.string (bs (s0 ++ [44]))) W := addQ s0 [44] (by have := HSL.out; simp; omega) _ rfl
        obtain ⟨r1, hr1⟩ : ∃ x, s0 ++ [44] = x := ⟨_, rfl⟩
        have h1l : r1.length ≤ 10000001 := by rw [← hr1]; have := HSL.out; simp; omega
        rw [hr1] at a1
        have h3l := h1l
        have a4 := addQ r1 P (by have := HPL.out; omega) _ rfl
        have HNX : Hid (joinJ false ns (l.take (j + 1)) = r1 ++ P) := Lib.hid (by rw [HTK.out, if_neg hz0, ← hr1]; simp)
        clear h1l h3l hr1
        clear hz0
        go_wp2_with (go_at_call 18; (with_reducible refine (HC.out _ HBA.out).mono ?_); rintro e w5 ⟨rfl, b5⟩; have HB5 := Lib.hid (HBA.out.trans (b5.mono HBA.out.size)); have HX5 := Lib.hid (HXA.out.below b5); clear b5)
        exact ⟨⟨j + 1, by omega, rfl, by rw [HNX.out], Lib.hid ⟨HB5.out, HX5.out⟩⟩, by show n - ((j : Int) + 1).toNat < n - (j : Int).toNat; omega⟩
    · obtain rfl : j = n := by omega
      have htk : l.take j = l := List.take_of_length_le (by rw [HN.out]; exact Nat.le_refl _)
      rw [htk] at HS0
      have a5 : ∀ W, (Op.stringOp .add ⟨#[91]⟩ (bs s0)).run Tryd.prog W = .ok (.string (bs (91 :: s0))) W := addQ [91] s0 (by have := HSL.out; simp; omega) _ rfl
      have a6 : ∀ W, (Op.stringOp .add (bs (91 :: s0)) ⟨#[93]⟩).run Tryd.prog W = .ok (.string (bs (91 :: s0 ++ [93]))) W := addQ (91 :: s0) [93] (by have := HSL.out; simp; omega) _ rfl
      clear htk
      go_wp2
      go_ret
      exact ⟨by rw [HP.out, HS0.out]; rfl, HW.out.1⟩
set_option maxRecDepth 100000 in
set_option maxHeartbeats 2000000 in
theorem rprint6 {N : Nat} (IH : RPrintC N) {T : Nat → Prop} {t : Bt} {ns : List Bt} {l : List JV} {x : Value} {d : Nat} {w : World} (hW : wJ (.mk 6 t ns l) ≤ N + 1) (hN : N ≤ 99999) (hR : rightJ d (.mk 6 t ns l) = true) (hJ : JR w T (.mk 6 t ns l) x) :
    Calls Tryd.prog 18 #[x] w fun e w' => e = .returned (.string (bs (printJ (.mk 6 t ns l)))) ∧ Below w.heap.size w w' := by
  have HRR := Lib.hid hR
  rw [wJ] at hW
  rw [JR] at hJ
  obtain ⟨nA, nc, lA, lc, rfl, hTx, hL⟩ := hJ
  have HIH := Lib.hid IH
  have HTX := Lib.hid hTx
  have HL := Lib.hid hL
  have HNL : Hid (wsJ l ≤ N ∧ nsW ns ≤ N + 1 ∧ t.length ≤ 100000 ∧ N ≤ 99999) := Lib.hid ⟨by omega, by omega, by omega, hN⟩
  have hn9 : l.length ≤ 1000000 := by have := wsJ_len l; omega
  clear hTx hL hW hN IH hR
  obtain ⟨nn, hnn⟩ : ∃ n, ns.length = n := ⟨_, rfl⟩
  obtain ⟨n, hn⟩ : ∃ n, l.length = n := ⟨_, rfl⟩
  rw [hnn, hn]
  rw [hn] at hn9
  have HNN := Lib.hid hnn
  have HN := Lib.hid hn
  clear hnn hn
  obtain ⟨S, hS⟩ : ∃ s, bs t = s := ⟨_, rfl⟩
  have HS := Lib.hid hS
  rw [hS]
  clear hS
  obtain ⟨B, hB⟩ : ∃ B, w.heap.size = B := ⟨_, rfl⟩
  obtain ⟨w1, hw1⟩ : ∃ W, w.alloc (.cells #[.int .i64 6, .string S, .slice nA nn nc, .slice lA n lc] TJ) = W := ⟨_, rfl⟩
  have HB1 : Hid (Below w.heap.size w w1) := Lib.hid (by rw [← hw1]; exact (Below.refl _ _).alloc (Nat.le_refl _) _)
  have HX1 : Hid (J4 B (.int .i64 6) (.string S) (.slice nA nn nc) (.slice lA n lc) w1) := Lib.hid (by rw [← hw1, ← hB]; exact Blk.new _ w)
  have e0 := HX1.out.c0
  have e1 := HX1.out.c1
  have e2 := HX1.out.c2
  have e3 := HX1.out.c3
  have HRI : Hid (nn = n ∧ ∃ e, rightsJ e l = true) := Lib.hid (by
    have := HRR.out
    rw [right_six] at this
    simp only [Bool.and_eq_true, decide_eq_true_eq, areB] at this
    rw [HNN.out, HN.out] at this
    exact ⟨this.1.1.2, _, this.2.2⟩)
  obtain rfl : nn = n := HRI.out.1
  have HRS : Hid (∃ e, rightsJ e l = true) := Lib.hid HRI.out.2
  have HP : Hid (printJ (.mk 6 t ns l) = 123 :: (joinJ true ns l ++ [125])) := Lib.hid (by rw [printJ]; rfl)
  go_enter Tryd.func18, Tryd.ntmps18
  go_wp2
  go_loopw [3, 28] (fun s i wr => ∃ j : Nat, j ≤ nn ∧ i = .int .i64 j ∧ s = .string (bs (joinJ true ns (l.take j))) ∧ Hid (Below w.heap.size w wr ∧ J4 B (.int .i64 6) (.string S) (.slice nA nn nc) (.slice lA nn lc) wr)) (fun _ i _ => nn - (RowKit.intOf i).toNat)
  case atStart => exact ⟨0, Nat.zero_le _, rfl, by rw [List.take_zero, joinJ]; rfl, Lib.hid ⟨HB1.out, HX1.out⟩⟩
  case round =>
    clear e0 e1 e2 e3
    obtain ⟨j, hj, rfl, rfl, HW⟩ := hrel
    obtain ⟨s0, hs0⟩ : ∃ s, joinJ true ns (l.take j) = s := ⟨_, rfl⟩
    have HS0 := Lib.hid hs0
    have HSL : Hid (s0.length ≤ 10000000) := Lib.hid (by
      have h1 := join_len true ns (l.take j)
      have h2 := wsJ_le l j
      have h3 := HNL.out
      rw [hs0] at h1
      omega)
    rw [hs0]
    clear hs0
    have e0 := HW.out.2.c0
    have e1 := HW.out.2.c1
    have e2 := HW.out.2.c2
    have e3 := HW.out.2.c3
    by_cases hjn : j < nn
    · have hjl : j < l.length := by rw [HN.out]; exact hjn
      have hj1 : (j : Int) < (nn : Int) := by omega
      obtain ⟨b, off, rfl, _, hbw, hJl⟩ := HL.out (by omega)
      obtain ⟨x0, x1, x2, x3, c0, c1, c2, c3, hJ⟩ := hJl.at j hjl
      obtain ⟨k', s', nA', nn', nc', lA', ln', lc', rfl, rfl, rfl, rfl⟩ := jr_form hJ
      have y0 := (HW.out.1.cell (p := ⟨b, off + j * 4, none⟩) hbw).trans c0
      have y1 := (HW.out.1.cell (p := ⟨b, off + j * 4 + 1, none⟩) hbw).trans c1
      have y2 := (HW.out.1.cell (p := ⟨b, off + j * 4 + 2, none⟩) hbw).trans c2
      have y3 := (HW.out.1.cell (p := ⟨b, off + j * 4 + 3, none⟩) hbw).trans c3
      obtain ⟨P, hP⟩ : ∃ q, printJ l[j] = q := ⟨_, rfl⟩
      have HPL : Hid (P.length ≤ 10000000) := Lib.hid (by
        have h1 := print_len l[j]
        have h2 := wsJ_at l j hjl
        have h3 := HNL.out
        rw [hP] at h1
        omega)
      have HRJ : Hid (∃ e, rightJ e l[j] = true) := Lib.hid (by
        obtain ⟨e, he⟩ := HRS.out
        refine ⟨e, ?_⟩
        cases h : rightJ e l[j] with
        | true => rfl
        | false => rw [rights_some hjl h] at he; cases he)
      have HC : Hid (∀ W, Below w.heap.size w W → Calls Tryd.prog 18 #[.agg #[.int .i64 k', .string s', .slice nA' nn' nc', .slice lA' ln' lc']] W fun e w' => e = .returned (.string (bs P)) ∧ Below W.heap.size W w') := Lib.hid (fun W h => by
        rw [← hP]
        obtain ⟨e, he⟩ := HRJ.out
        exact HIH.out T l[j] _ e W (by have := wsJ_at l j hjl; have := HNL.out.1; omega) he (hJ.below h))
      have HTK := Lib.hid (join_take true l ns j hjl)
      rw [HS0.out] at HTK
      unfold memJ at HTK
      rw [hP] at HTK
      obtain ⟨E, hE⟩ : ∃ E, wr.heap.size = E := ⟨_, rfl⟩
      obtain ⟨wA, hwA⟩ : ∃ W, wr.alloc (.cells #[.int .i64 k', .string s', .slice nA' nn' nc', .slice lA' ln' lc'] TJ) = W := ⟨_, rfl⟩
      have hba : Below wr.heap.size wr wA := by rw [← hwA]; exact (Below.refl _ _).alloc (Nat.le_refl _) _
      have HBA : Hid (Below w.heap.size w wA) := Lib.hid (HW.out.1.trans (hba.mono HW.out.1.size))
      have HXA : Hid (J4 B (.int .i64 6) (.string S) (.slice nA nn nc) (.slice (some ⟨b, off, none⟩) nn lc) wA) := Lib.hid (HW.out.2.below hba)
      have HEA : Hid (J4 E (.int .i64 k') (.string s') (.slice nA' nn' nc') (.slice lA' ln' lc') wA) := Lib.hid (by rw [← hwA, ← hE]; exact Blk.new _ wr)
      have n0 := HEA.out.c0
      have n1 := HEA.out.c1
      have n2 := HEA.out.c2
      have n3 := HEA.out.c3
      have f0 := HXA.out.c0
      have f1 := HXA.out.c1
      have f2 := HXA.out.c2
      have f3 := HXA.out.c3
      clear c0 c1 c2 c3 hJ hJl hP hba
      have hjs : j < ns.length := by rw [HNN.out]; exact hjn
      obtain ⟨bn, offn, rfl, _, hbn, hcn⟩ := HTX.out (by omega)
      have yn := (HBA.out.cell (p := ⟨bn, offn + j, none⟩) hbn).trans (hcn j hjs)
      have hgd : ns.getD j [] = ns[j] := by simp [List.getD, hjs]
      rw [hgd] at HTK
      have HQL : Hid ((jqL ns[j]).length ≤ 10000000) := Lib.hid (by
        have h1 := jq_len ns[j]
        have h2 := nsW_at ns j hjs
        have h3 := HNL.out
        omega)
      have HJN := jq_any ns[j] wA (by have h2 := nsW_at ns j hjs; have h3 := HNL.out; omega)
      obtain ⟨M, hM⟩ : ∃ m, bs ns[j] = m := ⟨_, rfl⟩
      obtain ⟨J, hJQ⟩ : ∃ q, jqL ns[j] = q := ⟨_, rfl⟩
      rw [hM, hJQ] at HJN
      rw [hM] at yn
      rw [hJQ] at HQL HTK
      have HJN := Lib.hid HJN
      have a2 : ∀ W, (Op.stringOp .add (bs J) ⟨#[58]⟩).run Tryd.prog W = .ok (.string (bs (J ++ [58]))) W := addQ J [58] (by have := HQL.out; simp; omega) _ rfl
      clear hcn hgd hM hJQ
      by_cases hz0 : j = 0
      · have hjz : ¬ (0 : Int) < (j : Int) := by omega
        have h1l : s0.length ≤ 10000001 := by have := HSL.out; omega
        obtain ⟨r2, hr2⟩ : ∃ x, J ++ [58] = x := ⟨_, rfl⟩
        have h2l : r2.length ≤ 10000001 := by rw [← hr2]; have := HQL.out; simp; omega
        rw [hr2] at a2
        have a3 := addQ s0 r2 (by omega) _ rfl
        obtain ⟨r3, hr3⟩ : ∃ x, s0 ++ r2 = x := ⟨_, rfl⟩
        have h3l : r3.length ≤ 20000002 := by rw [← hr3]; simp; omega
        rw [hr3] at a3
        have a4 := addQ r3 P (by have := HPL.out; omega) _ rfl
        have HNX : Hid (joinJ true ns (l.take (j + 1)) = r3 ++ P) := Lib.hid (by rw [HTK.out, if_pos hz0, ← hr3, ← hr2]; simp)
        clear h1l h3l hr2 hr3 h2l
        clear hz0
        go_wp2_with (first | (go_at_call 30; (with_reducible refine HJN.out.mono ?_); rintro e w4 ⟨rfl, b4⟩; have HB4 := Lib.hid (HBA.out.trans (b4.mono HBA.out.size)); have HX4 := Lib.hid (HXA.out.below b4); have m0 := (HEA.out.below b4).c0; have m1 := (HEA.out.below b4).c1; have m2 := (HEA.out.below b4).c2; have m3 := (HEA.out.below b4).c3; clear b4) | (go_at_call 18; (with_reducible refine (HC.out _ HB4.out).mono ?_); rintro e w5 ⟨rfl, b5⟩; have HB5 := Lib.hid (HB4.out.trans (b5.mono HB4.out.size)); have HX5 := Lib.hid (HX4.out.below b5); clear b5))
        exact ⟨⟨j + 1, by omega, rfl, by rw [HNX.out], Lib.hid ⟨HB5.out, HX5.out⟩⟩, by show nn - ((j : Int) + 1).toNat < nn - (j : Int).toNat; omega⟩
      · have hjz : (0 : Int) < (j : Int) := by omega
        have a1 : ∀ W, (Op.stringOp .add (bs s0) ⟨#[44]⟩).run Tryd.prog W = .ok (.string (bs (s0 ++ [44]))) W := addQ s0 [44] (by have := HSL.out; simp; omega) _ rfl
        obtain ⟨r1, hr1⟩ : ∃ x, s0 ++ [44] = x := ⟨_, rfl⟩
        have h1l : r1.length ≤ 10000001 := by rw [← hr1]; have := HSL.out; simp; omega
        rw [hr1] at a1
        obtain ⟨r2, hr2⟩ : ∃ x, J ++ [58] = x := ⟨_, rfl⟩
        have h2l : r2.length ≤ 10000001 := by rw [← hr2]; have := HQL.out; simp; omega
        rw [hr2] at a2
        have a3 := addQ r1 r2 (by omega) _ rfl
        obtain ⟨r3, hr3⟩ : ∃ x, r1 ++ r2 = x := ⟨_, rfl⟩
        have h3l : r3.length ≤ 20000002 := by rw [← hr3]; simp; omega
        rw [hr3] at a3
        have a4 := addQ r3 P (by have := HPL.out; omega) _ rfl
        have HNX : Hid (joinJ true ns (l.take (j + 1)) = r3 ++ P) := Lib.hid (by rw [HTK.out, if_neg hz0, ← hr3, ← hr2, ← hr1]; simp)
        clear h1l h3l hr2 hr3 h2l hr1
        clear hz0
        go_wp2_with (first | (go_at_call 30; (with_reducible refine HJN.out.mono ?_); rintro e w4 ⟨rfl, b4⟩; have HB4 := Lib.hid (HBA.out.trans (b4.mono HBA.out.size)); have HX4 := Lib.hid (HXA.out.below b4); have m0 := (HEA.out.below b4).c0; have m1 := (HEA.out.below b4).c1; have m2 := (HEA.out.below b4).c2; have m3 := (HEA.out.below b4).c3; clear b4) | (go_at_call 18; (with_reducible refine (HC.out _ HB4.out).mono ?_); rintro e w5 ⟨rfl, b5⟩; have HB5 := Lib.hid (HB4.out.trans (b5.mono HB4.out.size)); have HX5 := Lib.hid (HX4.out.below b5); clear b5))
        exact ⟨⟨j + 1, by omega, rfl, by rw [HNX.out], Lib.hid ⟨HB5.out, HX5.out⟩⟩, by show nn - ((j : Int) + 1).toNat < nn - (j : Int).toNat; omega⟩
    · obtain rfl : j = nn := by omega
      have htk : l.take j = l := List.take_of_length_le (by rw [HN.out]; exact Nat.le_refl _)
      rw [htk] at HS0
      have a5 : ∀ W, (Op.stringOp .add ⟨#[123]⟩ (bs s0)).run Tryd.prog W = .ok (.string (bs (123 :: s0))) W := addQ [123] s0 (by have := HSL.out; simp; omega) _ rfl
      have a6 : ∀ W, (Op.stringOp .add (bs (123 :: s0)) ⟨#[125]⟩).run Tryd.prog W = .ok (.string (bs (123 :: s0 ++ [125]))) W := addQ (123 :: s0) [125] (by have := HSL.out; simp; omega) _ rfl
      clear htk
      go_wp2
      go_ret
      exact ⟨by rw [HP.out, HS0.out]; rfl, HW.out.1⟩
theorem rprint_all : ∀ N, N ≤ 100000 → RPrintC N
  | 0, _, _, v, _, _, _, hW, _, _ => by have := wJ_pos v; omega
  | N + 1, hN, T, .mk k t ns l, x, d, w, hW, hR, hJ => by
    have IH := rprint_all N (by omega)
    by_cases hk : k < 0 ∨ 6 < k
    · rw [right_else hk] at hR; cases hR
    · have : k = 0 ∨ k = 1 ∨ k = 2 ∨ k = 3 ∨ k = 4 ∨ k = 5 ∨ k = 6 := by omega
      rcases this with rfl | rfl | rfl | rfl | rfl | rfl | rfl
      · exact rprint0 IH hW (by omega) hR hJ
      · exact rprint1 IH hW (by omega) hR hJ
      · exact rprint2 IH hW (by omega) hR hJ
      · exact rprint3 IH hW (by omega) hR hJ
      · exact rprint4 IH hW (by omega) hR hJ
      · exact rprint5 IH hW (by omega) hR hJ
      · exact rprint6 IH hW (by omega) hR hJ
end Go.Proofs.YtchgelfomnbpaaaDoor
