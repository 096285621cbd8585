/-
  The walks of strings.IndexRune (at a code point beyond ASCII) and strings.IndexAny, both at the four marks of links, whatever the text. Conditions: texts of at most a million bytes.
-/
import Derived.Test.YtlgggibdgfdmhaaGreatDoorKM
import Derived.Lib.MapLaws
import Derived.Lib.TrimUEq
import Derived.Laws.Runes
import Derived.WalkMore
import Derived.Shelf.Strings.Runes
import Derived.Shelf.Small.Strs
namespace Go.Proofs.YtlgggibdgfdmhaaGreatDoor
open Go.Shelf Go.RowKit
open Go.Lib
def Tryz.lays137_ren : Go.Shelf.Ren := ⟨fun | 137 => 110 | 217 => 97 | 266 => 116 | n => n, fun | 3 => 3 | 5 => 5 | 9 => 9 | n => n, fun | n => n⟩
theorem Tryz.lays137 : Go.Proofs.Lays.n137 Tryz.prog Tryz.lays137_ren := {
  mixed := by kernel_rfl
  f137 := Tryz.func110.trans (congrArg some (by kernel_rfl))
  f217 := Tryz.func97.trans (congrArg some (by kernel_rfl))
  f266 := Tryz.func116.trans (congrArg some (by kernel_rfl))
  t3 := Tryz.underlying3
  a3 := Tryz.isAgg3
  z3 := Tryz.sizeOf3
  v3 := Tryz.zeroValue3
  t5 := Tryz.underlying5
  a5 := Tryz.isAgg5
  z5 := Tryz.sizeOf5
  v5 := Tryz.zeroValue5
  t9 := Tryz.underlying9
  a9 := Tryz.isAgg9
  z9 := Tryz.sizeOf9
  v9 := Tryz.zeroValue9 }
def Tryz.lays152_ren : Go.Shelf.Ren := ⟨fun | 119 => 111 | 137 => 110 | 152 => 87 | 217 => 97 | 224 => 99 | 225 => 98 | 266 => 116 | n => n, fun | 0 => 0 | 3 => 3 | 4 => 4 | 5 => 5 | 9 => 9 | 21 => 21 | 46 => 85 | n => n, fun | n => n⟩
theorem Tryz.lays152 : Go.Proofs.Lays.n152 Tryz.prog Tryz.lays152_ren := {
  mixed := by kernel_rfl
  f119 := Tryz.func111.trans (congrArg some (by kernel_rfl))
  f137 := Tryz.func110.trans (congrArg some (by kernel_rfl))
  f152 := Tryz.func87.trans (congrArg some (by kernel_rfl))
  f217 := Tryz.func97.trans (congrArg some (by kernel_rfl))
  f224 := Tryz.func99.trans (congrArg some (by kernel_rfl))
  f225 := Tryz.func98.trans (congrArg some (by kernel_rfl))
  f266 := Tryz.func116.trans (congrArg some (by kernel_rfl))
  t0 := Tryz.underlying0
  a0 := Tryz.isAgg0
  z0 := Tryz.sizeOf0
  v0 := Tryz.zeroValue0
  t3 := Tryz.underlying3
  a3 := Tryz.isAgg3
  z3 := Tryz.sizeOf3
  v3 := Tryz.zeroValue3
  t4 := Tryz.underlying4
  a4 := Tryz.isAgg4
  z4 := Tryz.sizeOf4
  v4 := Tryz.zeroValue4
  t5 := Tryz.underlying5
  a5 := Tryz.isAgg5
  z5 := Tryz.sizeOf5
  v5 := Tryz.zeroValue5
  t9 := Tryz.underlying9
  a9 := Tryz.isAgg9
  z9 := Tryz.sizeOf9
  v9 := Tryz.zeroValue9
  t21 := Tryz.underlying21
  a21 := Tryz.isAgg21
  z21 := Tryz.sizeOf21
  v21 := Tryz.zeroValue21
  t46 := Tryz.underlying85
  a46 := Tryz.isAgg85
  z46 := Tryz.sizeOf85
  v46 := Tryz.zeroValue85 }

theorem libIndexByte (s : ByteArray) (c : Int) (w : World) :
    Calls Tryz.prog 110 #[.string s, .int .u8 c] w fun e w' => e = .returned (.int .i64 (Lib.indexByte s.data.toList c.toNat.toUInt8)) ∧ w' = w := Any.strings_IndexByte Tryz.lays137 s c w
theorem libIndexRune (s : ByteArray) (r : Int) (w : World) (h0 : 0 ≤ r) (h1 : r < 128) :
    Calls Tryz.prog 87 #[.string s, .int .i32 r] w fun e w' => e = .returned (.int .i64 (Lib.indexByte s.data.toList r.toNat.toUInt8)) ∧ w' = w := Any.strings_IndexRune_ascii Tryz.lays152 s r w h0 h1
theorem ascii_seps : ∀ (j : Nat) b, (⟨#[58, 47, 63, 35]⟩ : ByteArray).data.toList[j]? = some b → b.toNat < 128 := by
  intro j b hb
  have hm : b ∈ ([58, 47, 63, 35] : List UInt8) := List.mem_of_getElem? hb
  simp at hm
  rcases hm with rfl | rfl | rfl | rfl <;> decide
theorem noIx (l : List UInt8) (c : UInt8) (hl : ∀ x ∈ l, x.toNat < 128) (hc : 128 ≤ c.toNat) : indexByte l c = -1 := by
  rw [← index_one]
  refine index_absent l [] c (fun hm => ?_)
  have := hl c hm
  omega
/-- What stands at a place beyond ASCII. -/
theorem decode_high (s : ByteArray) (i : Nat) (hi : i < s.size) (hb : 128 ≤ s[i].toNat) :
    128 ≤ (Utf8.decode s i).1 ∧ (Utf8.decode s i).1 ≤ 1114111 ∧ ((Utf8.decode s i).1 < 55296 ∨ 57343 < (Utf8.decode s i).1) ∧ 1 ≤ (Utf8.decode s i).2 ∧ i + (Utf8.decode s i).2 ≤ s.size ∧ ∀ j x, i ≤ j → j < i + (Utf8.decode s i).2 → s.data.toList[j]? = some x → 128 ≤ x.toNat := by
  have hl := size_list s
  have h0 : (s.data.toList.getD i 0).toNat = s[i].toNat := by
    rw [List.getD_eq_getElem?_getD, getE? s i hi]; rfl
  have hx : ∀ j x, s.data.toList[j]? = some x → (s.data.toList.getD j 0).toNat = x.toNat := fun j x h => by
    rw [List.getD_eq_getElem?_getD, h]; rfl
  rw [decode_N]
  have hsh := decodeN_shape (s.data.toList.length - i) (s.data.toList.getD i 0).toNat (s.data.toList.getD (i + 1) 0).toNat (s.data.toList.getD (i + 2) 0).toNat (s.data.toList.getD (i + 3) 0).toNat
  rw [h0] at hsh ⊢
  have hb2 : s[i].toNat < 256 := UInt8.toNat_lt s[i]
  have hd : ∀ x : UInt8, s.data.toList[i]? = some x → x.toNat = s[i].toNat := fun x h => by rw [getE? s i hi] at h; injection h with h; rw [← h]
  rcases hsh with ⟨h1, _⟩ | ⟨h1, h2, h3, h4, h5⟩ | ⟨h1, h2, h3, h4, h5, h6, h7⟩ | ⟨h1, h2, h3, h4, h5, h6, h7, h8⟩ | h1
  · omega
  · rw [h5]
    refine ⟨h4, by omega, by omega, by omega, by omega, fun j x ha hjn hjx => ?_⟩
    have := hx j x hjx
    rcases (by omega : j = i ∨ j = i + 1) with rfl | rfl
    · rw [hd x hjx]; exact hb
    · omega
  · rw [h7]
    refine ⟨by omega, by omega, by omega, by omega, by omega, fun j x ha hjn hjx => ?_⟩
    have := hx j x hjx
    rcases (by omega : j = i ∨ j = i + 1 ∨ j = i + 2) with rfl | rfl | rfl
    · rw [hd x hjx]; exact hb
    · omega
    · omega
  · rw [h8]
    refine ⟨by omega, by omega, by omega, by omega, by omega, fun j x ha hjn hjx => ?_⟩
    have := hx j x hjx
    rcases (by omega : j = i ∨ j = i + 1 ∨ j = i + 2 ∨ j = i + 3) with rfl | rfl | rfl | rfl
    · rw [hd x hjx]; exact hb
    · omega
    · omega
    · omega
  · rw [h1]
    refine ⟨by decide, by decide, by decide, by decide, by show i + 1 ≤ s.size; omega, fun j x ha hb' hjx => ?_⟩
    have hb' : j < i + 1 := hb'
    obtain rfl : j = i := by omega
    rw [hd x hjx]; exact hb
theorem decode_low (s : ByteArray) (i : Nat) (hi : i < s.size) (hb : s[i].toNat < 128) : Utf8.decode s i = (s[i].toNat, 1) := by
  rw [decode_N, show (s.data.toList.getD i 0).toNat = s[i].toNat by rw [List.getD_eq_getElem?_getD, getE? s i hi]; rfl]
  exact decodeN_ascii _ _ _ _ _ hb
theorem valid_rune (p : Nat) (w : World) (h2 : p ≤ 1114111) (h3 : p < 55296 ∨ 57343 < p) : Calls Tryz.prog 111 #[.int .i32 p] w fun e w' => e = .returned (.bool true) ∧ w = w' := by
  have g2 : (p : Int) ≤ 1114111 := by omega
  have g0 : (0 : Int) ≤ (p : Int) := by omega
  rcases h3 with h3 | h3
  · have g3 : (p : Int) < 55296 := by omega
    go_enter Tryz.func111, Tryz.ntmps111
    go_wp2
    go_ret
    exact ⟨rfl, rfl⟩
  · have g3 : (57343 : Int) < (p : Int) := by omega
    have g4 : ¬ (p : Int) < 55296 := by omega
    go_enter Tryz.func111, Tryz.ntmps111
    go_wp2
    go_ret
    exact ⟨rfl, rfl⟩
theorem mem_extract_lt (S : ByteArray) (hA : ∀ x ∈ S.data.toList, x.toNat < 128) (a b : Nat) : ∀ x ∈ (S.extract a b).data.toList, x.toNat < 128 := fun x hx => by
  refine hA x ?_
  have : (S.extract a b).data.toList = (S.data.toList.drop a).take (b - a) := by simp [ByteArray.data_extract, Array.toList_extract, List.extract_eq_take_drop]
  rw [this] at hx
  exact List.mem_of_mem_drop (List.mem_of_mem_take hx)
set_option maxRecDepth 1000000 in
set_option maxHeartbeats 4000000 in
theorem rune_no2 (S : ByteArray) (hS : S.size = 4) (hA : ∀ x ∈ S.data.toList, x.toNat < 128) (E : ByteArray) (hL : E.size = 2) (p : Nat) (w : World) (hEE : Utf8.encode (p : Int) = E) (hlast : 128 ≤ E[1].toNat) (h1 : 128 ≤ p) (h2 : p ≤ 1114111) (h3 : p < 55296 ∨ 57343 < p) (h4 : p ≠ 65533) : Calls Tryz.prog 87 #[.string S, .int .i32 p] w fun e w' => e = .returned (.int .i64 (-1)) ∧ Below w.heap.size w w' := by
  have hne : ((p : Int) == 65533) = false := by rw [beq_eq_false_iff_ne]; omega
  have g1 : (128 : Int) ≤ (p : Int) := by omega
  have g5 : decide ((p : Int) < 128) = false := decide_eq_false (by omega)
  have hsl : S[1].toNat < 128 := hA _ (by rw [← Array.mem_def]; exact Array.getElem_mem _)
  have n2 : ((S[1].toNat : Int) != (E[1].toNat : Int)) = true := by rw [bne_iff_ne]; omega
  have hib : ∀ a b W, Calls Tryz.prog 110 #[.string (S.extract a b), .int .u8 (E[1].toNat : Int)] W fun e w' => e = .returned (.int .i64 (-1)) ∧ w' = W := fun a b W => by
    have := libIndexByte (S.extract a b) (E[1].toNat : Int) W
    rwa [show ((E[1].toNat : Int)).toNat.toUInt8 = E[1] by simp, noIx _ E[1] (mem_extract_lt S hA a b) hlast] at this
  have hs2 : ∀ W, (Instr.slice 9 (.string S) (some (.int .i64 2)) none none).run Tryz.prog W = .ok (.string (S.extract 2 S.size)) W := fun W => run_slice_string_l W 9 S Tryz.underlying9 .i64 2 (by omega) (by omega)
  clear hA h4
  go_enter Tryz.func87, Tryz.ntmps87
  go_wp2_with (go_at_call 111; refine (valid_rune _ _ h2 h3).mono ?_; rintro e w' ⟨rfl, rfl⟩)
  go_step3
  go_wp2
  go_loop [9] (fun i => i = .int .i64 1) (fun _ => 0)
  case atStart => rfl
  case round =>
    subst hrel
    go_wp2
    go_step3
    go_wp2
    go_quiet (fail)
    have B1 : Below w.heap.size w (w.drewN nq) := below_drewN (Below.refl _ _) _
    generalize w.drewN nq = w1 at *
    go_wp2
    go_quiet ((go_at_call 110; with_reducible exact Calls.quiet_of_same (hib _ _ _)))
    go_wp2
    repeat rw [Exit.noGoto_ret]
    exact ⟨rfl, _, results_tmp rfl _ _ _, rfl, below_drewN B1 _⟩
set_option maxRecDepth 1000000 in
set_option maxHeartbeats 4000000 in
theorem rune_no3 (S : ByteArray) (hS : S.size = 4) (hA : ∀ x ∈ S.data.toList, x.toNat < 128) (E : ByteArray) (hL : E.size = 3) (p : Nat) (w : World) (hEE : Utf8.encode (p : Int) = E) (hlast : 128 ≤ E[2].toNat) (h1 : 128 ≤ p) (h2 : p ≤ 1114111) (h3 : p < 55296 ∨ 57343 < p) (h4 : p ≠ 65533) : Calls Tryz.prog 87 #[.string S, .int .i32 p] w fun e w' => e = .returned (.int .i64 (-1)) ∧ Below w.heap.size w w' := by
  have hne : ((p : Int) == 65533) = false := by rw [beq_eq_false_iff_ne]; omega
  have g1 : (128 : Int) ≤ (p : Int) := by omega
  have g5 : decide ((p : Int) < 128) = false := decide_eq_false (by omega)
  have hsl : S[2].toNat < 128 := hA _ (by rw [← Array.mem_def]; exact Array.getElem_mem _)
  have n2 : ((S[2].toNat : Int) != (E[2].toNat : Int)) = true := by rw [bne_iff_ne]; omega
  have hib : ∀ a b W, Calls Tryz.prog 110 #[.string (S.extract a b), .int .u8 (E[2].toNat : Int)] W fun e w' => e = .returned (.int .i64 (-1)) ∧ w' = W := fun a b W => by
    have := libIndexByte (S.extract a b) (E[2].toNat : Int) W
    rwa [show ((E[2].toNat : Int)).toNat.toUInt8 = E[2] by simp, noIx _ E[2] (mem_extract_lt S hA a b) hlast] at this
  have hs2 : ∀ W, (Instr.slice 9 (.string S) (some (.int .i64 3)) none none).run Tryz.prog W = .ok (.string (S.extract 3 S.size)) W := fun W => run_slice_string_l W 9 S Tryz.underlying9 .i64 3 (by omega) (by omega)
  clear hA h4
  go_enter Tryz.func87, Tryz.ntmps87
  go_wp2_with (go_at_call 111; refine (valid_rune _ _ h2 h3).mono ?_; rintro e w' ⟨rfl, rfl⟩)
  go_step3
  go_wp2
  go_loop [9] (fun i => i = .int .i64 2) (fun _ => 0)
  case atStart => rfl
  case round =>
    subst hrel
    go_wp2
    go_step3
    go_wp2
    go_quiet (fail)
    have B1 : Below w.heap.size w (w.drewN nq) := below_drewN (Below.refl _ _) _
    generalize w.drewN nq = w1 at *
    go_wp2
    go_quiet ((go_at_call 110; with_reducible exact Calls.quiet_of_same (hib _ _ _)))
    go_wp2
    repeat rw [Exit.noGoto_ret]
    exact ⟨rfl, _, results_tmp rfl _ _ _, rfl, below_drewN B1 _⟩
set_option maxRecDepth 1000000 in
set_option maxHeartbeats 4000000 in
theorem rune_no4 (S : ByteArray) (hS : S.size = 4) (hA : ∀ x ∈ S.data.toList, x.toNat < 128) (E : ByteArray) (hL : E.size = 4) (p : Nat) (w : World) (hEE : Utf8.encode (p : Int) = E) (hlast : 128 ≤ E[3].toNat) (h1 : 128 ≤ p) (h2 : p ≤ 1114111) (h3 : p < 55296 ∨ 57343 < p) (h4 : p ≠ 65533) : Calls Tryz.prog 87 #[.string S, .int .i32 p] w fun e w' => e = .returned (.int .i64 (-1)) ∧ Below w.heap.size w w' := by
  have hne : ((p : Int) == 65533) = false := by rw [beq_eq_false_iff_ne]; omega
  have g1 : (128 : Int) ≤ (p : Int) := by omega
  have g5 : decide ((p : Int) < 128) = false := decide_eq_false (by omega)
  have hsl : S[3].toNat < 128 := hA _ (by rw [← Array.mem_def]; exact Array.getElem_mem _)
  have n2 : ((S[3].toNat : Int) != (E[3].toNat : Int)) = true := by rw [bne_iff_ne]; omega
  have hib : ∀ a b W, Calls Tryz.prog 110 #[.string (S.extract a b), .int .u8 (E[3].toNat : Int)] W fun e w' => e = .returned (.int .i64 (-1)) ∧ w' = W := fun a b W => by
    have := libIndexByte (S.extract a b) (E[3].toNat : Int) W
    rwa [show ((E[3].toNat : Int)).toNat.toUInt8 = E[3] by simp, noIx _ E[3] (mem_extract_lt S hA a b) hlast] at this
  have hs2 : ∀ W, (Instr.slice 9 (.string S) (some (.int .i64 4)) none none).run Tryz.prog W = .ok (.string (S.extract 4 S.size)) W := fun W => run_slice_string_l W 9 S Tryz.underlying9 .i64 4 (by omega) (by omega)
  have hib0 : ∀ W, Calls Tryz.prog 110 #[.string ByteArray.empty, .int .u8 (E[3].toNat : Int)] W fun e w' => e = .returned (.int .i64 (-1)) ∧ w' = W := fun W => by
    have := libIndexByte ByteArray.empty (E[3].toNat : Int) W
    rwa [show ((E[3].toNat : Int)).toNat.toUInt8 = E[3] by simp, noIx _ E[3] (by simp) hlast] at this
  clear hA h4
  go_enter Tryz.func87, Tryz.ntmps87
  go_wp2_with (go_at_call 111; refine (valid_rune _ _ h2 h3).mono ?_; rintro e w' ⟨rfl, rfl⟩)
  go_step3
  go_wp2
  go_loop [9] (fun i => i = .int .i64 3) (fun _ => 0)
  case atStart => rfl
  case round =>
    subst hrel
    go_wp2
    go_step3
    go_wp2
    go_quiet (fail)
    have B1 : Below w.heap.size w (w.drewN nq) := below_drewN (Below.refl _ _) _
    generalize w.drewN nq = w1 at *
    go_wp2
    go_quiet ((go_at_call 110; first | with_reducible exact Calls.quiet_of_same (hib _ _ _) | with_reducible exact Calls.quiet_of_same (hib0 _) | trace_state))
    go_wp2
    repeat rw [Exit.noGoto_ret]
    exact ⟨rfl, _, results_tmp rfl _ _ _, rfl, below_drewN B1 _⟩
theorem rune_no (p : Nat) (w : World) (h1 : 128 ≤ p) (h2 : p ≤ 1114111) (h3 : p < 55296 ∨ 57343 < p) (h4 : p ≠ 65533) : Calls Tryz.prog 87 #[.string ⟨#[58, 47, 63, 35]⟩, .int .i32 p] w fun e w' => e = .returned (.int .i64 (-1)) ∧ Below w.heap.size w w' := by
  have hv : Utf8.valid (p : Int) = true := by unfold Utf8.valid; simp; omega
  obtain ⟨hE1, hE2, hE3⟩ := encode_facts (p : Int) hv (by omega)
  generalize hEE : Utf8.encode (p : Int) = E at *
  have hA : ∀ x ∈ (⟨#[58, 47, 63, 35]⟩ : ByteArray).data.toList, x.toNat < 128 := by
    intro x hx
    simp at hx
    rcases hx with rfl | rfl | rfl | rfl <;> decide
  have hL : E.size = 2 ∨ E.size = 3 ∨ E.size = 4 := by omega
  have hE3 := hE3 (by omega)
  rcases hL with hL | hL | hL
  · exact rune_no2 _ rfl hA E hL p w hEE (by simpa only [hL] using hE3) h1 h2 h3 h4
  · exact rune_no3 _ rfl hA E hL p w hEE (by simpa only [hL] using hE3) h1 h2 h3 h4
  · exact rune_no4 _ rfl hA E hL p w hEE (by simpa only [hL] using hE3) h1 h2 h3 h4
theorem sep_decode (k : Nat) (hk : k < 4) : Utf8.decode (⟨#[58, 47, 63, 35]⟩ : ByteArray) k = (((([58, 47, 63, 35] : List UInt8).getD k 0).toNat), 1) := by
  match k, hk with
  | 0, _ => decide
  | 1, _ => decide
  | 2, _ => decide
  | 3, _ => decide
set_option maxRecDepth 1000000 in
set_option maxHeartbeats 4000000 in
theorem rune_err (w : World) : Calls Tryz.prog 87 #[.string ⟨#[58, 47, 63, 35]⟩, .int .i32 65533] w fun e w' => e = .returned (.int .i64 (-1)) ∧ Below w.heap.size w w' := by
  go_enter Tryz.func87, Tryz.ntmps87
  go_wp2
  go_loopw [] (fun wr => ∃ k : Nat, k ≤ 4 ∧ wr.heap[w.heap.size]? = some (.stringIter ⟨#[58, 47, 63, 35]⟩ k) ∧ Below w.heap.size w wr) (fun wr => 4 - wr.iterPos w.heap.size)
  case atStart => exact ⟨0, by omega, World.iter_heap w _ 0, (Below.refl _ _).alloc (Nat.le_refl _) _⟩
  case round =>
    obtain ⟨k, hk, hit, hbw⟩ := hrel
    by_cases hlt : k < 4
    · have hd := sep_decode k hlt
      have hnx : ∀ ty, (Instr.next (.pointer (some ⟨w.heap.size, 0, none⟩)) true ty).run Tryz.prog wr = _ := fun ty => Lib.run_next_any_at wr w.heap.size ⟨#[58, 47, 63, 35]⟩ k ty hit hlt
      have hit2 := Lib.iterAt_heap wr w.heap.size ⟨#[58, 47, 63, 35]⟩ k (k + 1) hit
      have hbw2 := Lib.below_iterAt hbw (k := w.heap.size) (Nat.le_refl _) ⟨#[58, 47, 63, 35]⟩ (k + 1)
      rw [hd] at hnx
      simp only at hnx
      have hne : (((([58, 47, 63, 35] : List UInt8).getD k 0).toNat : Int) == 65533) = false := by
        match k, hlt with
        | 0, _ => decide
        | 1, _ => decide
        | 2, _ => decide
        | 3, _ => decide
      generalize (([58, 47, 63, 35] : List UInt8).getD k 0).toNat = c at *
      generalize wr.iterAt w.heap.size ⟨#[58, 47, 63, 35]⟩ (k + 1) = wi at *
      have hm : wi.iterPos w.heap.size = k + 1 := by simp [World.iterPos, hit2]
      have hm0 : wr.iterPos w.heap.size = k := by simp [World.iterPos, hit]
      have HM := Lib.hid hm
      have HM0 := Lib.hid hm0
      clear hit hd hm hm0
      have HIT := Lib.hid hit2
      clear hit2
      go_wp2
      go_roundw
      case rel => exact ⟨k + 1, by omega, HIT.out, hbw2⟩
      case measure => rw [HM.out, HM0.out]; omega
    · have hnx : ∀ ty, (Instr.next (.pointer (some ⟨w.heap.size, 0, none⟩)) true ty).run Tryz.prog wr = _ := fun ty => Lib.run_next_end_at wr w.heap.size ⟨#[58, 47, 63, 35]⟩ k ty hit hlt
      clear hit
      go_wp2
      go_ret
      exact ⟨rfl, hbw⟩
theorem rune_high (p : Nat) (w : World) (h1 : 128 ≤ p) (h2 : p ≤ 1114111) (h3 : p < 55296 ∨ 57343 < p) : Calls Tryz.prog 87 #[.string ⟨#[58, 47, 63, 35]⟩, .int .i32 p] w fun e w' => e = .returned (.int .i64 (-1)) ∧ Below w.heap.size w w' := by
  by_cases h : p = 65533
  · subst h; exact rune_err w
  · exact rune_no p w h1 h2 h3 h
theorem noAny_more {l ch : List UInt8} {i n : Nat} (h : NoAny l ch i) (hs : ∀ j x, i ≤ j → j < i + n → l[j]? = some x → ch.contains x = false) : NoAny l ch (i + n) := fun j b hj hb => by
  by_cases hji : j < i
  · exact h j b hji hb
  · exact hs j b (by omega) hj hb
set_option maxRecDepth 100000 in
theorem should_any (n : Nat) (w : World) (h : n ≤ 8) : Calls Tryz.prog 88 #[.int .i64 n] w fun e w' => e = .returned (.bool false) ∧ w = w' := by
  have h8 : ¬ (8 : Int) < (n : Int) := by omega
  have hd : decide ((8 : Int) < (n : Int)) = false := decide_eq_false h8
  go_enter Tryz.func88, Tryz.ntmps88
  go_wp2
  go_ret
  exact ⟨rfl, rfl⟩
set_option maxRecDepth 100000 in
set_option maxHeartbeats 4000000 in
theorem indexAny_short (s : ByteArray) (w : World) (hs : s.size ≤ 8) : Calls Tryz.prog 75 #[.string s, .string ⟨#[58, 47, 63, 35]⟩] w fun e w' => e = .returned (.int .i64 (indexAny s.data.toList seps)) ∧ Below w.heap.size w w' := by
  have HL := Lib.hid (size_list s)
  have h8z : decide ((8 : Int) < (s.size : Int)) = false := decide_eq_false (by omega)
  go_enter Tryz.func75, Tryz.ntmps75
  go_wp2_with (go_at_call 88; refine (should_any _ _ hs).mono ?_; rintro e w' ⟨rfl, rfl⟩)
  go_loopw [] (fun wr => ∃ k : Nat, k ≤ s.size ∧ wr.heap[w.heap.size]? = some (.stringIter s k) ∧ Below w.heap.size w wr ∧ Hid (NoAny s.data.toList seps k)) (fun wr => s.size - wr.iterPos w.heap.size)
  case atStart => exact ⟨0, by omega, World.iter_heap w _ 0, (Below.refl _ _).alloc (Nat.le_refl _) _, NoAny.zero _ _⟩
  case round =>
    obtain ⟨k, hk, hit, hbw, hno⟩ := hrel
    by_cases hlt : k < s.size
    · have hnx : ∀ ty, (Instr.next (.pointer (some ⟨w.heap.size, 0, none⟩)) true ty).run Tryz.prog wr = _ := fun ty => Lib.run_next_any_at wr w.heap.size s k ty hit hlt
      have hbsz : w.heap.size < wr.heap.size := (Array.getElem?_eq_some_iff.1 hit).1
      by_cases hb : s[k].toNat < 128
      · rw [decode_low s k hlt hb] at hnx
        simp only at hnx
        have hit2 := Lib.iterAt_heap wr w.heap.size s k (k + 1) hit
        have hbw2 := Lib.below_iterAt hbw (k := w.heap.size) (Nat.le_refl _) s (k + 1)
        have hm0 : wr.iterPos w.heap.size = k := by simp [World.iterPos, hit]
        generalize wr.iterAt w.heap.size s (k + 1) = wi at *
        have hm : wi.iterPos w.heap.size = k + 1 := by simp [World.iterPos, hit2]
        have hir := libIndexRune ⟨#[58, 47, 63, 35]⟩ (s[k].toNat : Int) wi (by omega) (by omega)
        rw [show ((s[k].toNat : Int)).toNat.toUInt8 = s[k] by simp, show (⟨#[58, 47, 63, 35]⟩ : ByteArray).data.toList = seps from rfl] at hir
        have hcon := Lib.contains_iff_indexByte seps s[k]
        have HX := Lib.hid (getE? s k hlt)
        have HM := Lib.hid hm
        have HM0 := Lib.hid hm0
        have HIT := Lib.hid hit2
        clear hm hm0 hit2 hit
        cases hc : seps.contains s[k] with
        | true =>
          have HV := Lib.hid (Lib.indexAny_hit hno.out HX.out hc)
          rw [hc] at hcon
          have hge : (0 : Int) ≤ indexByte seps s[k] := of_decide_eq_true hcon.symm
          clear hc hcon
          generalize indexByte seps s[k] = z at *
          generalize s[k].toNat = c at *
          go_wp2_with fail
          refine hir.mono ?_
          clear hir
          rintro e w2 ⟨rfl, rfl⟩
          go_wp2
          go_ret
          exact ⟨ret_int HV.out.symm, hbw2⟩
        | false =>
          have HV := Lib.hid (hno.out.succ HX.out hc)
          rw [hc] at hcon
          have hge : ¬ (0 : Int) ≤ indexByte seps s[k] := of_decide_eq_false hcon.symm
          clear hc hcon
          generalize indexByte seps s[k] = z at *
          generalize s[k].toNat = c at *
          go_wp2_with fail
          refine hir.mono ?_
          clear hir
          rintro e w2 ⟨rfl, rfl⟩
          go_wp2
          go_roundw
          case rel => exact ⟨k + 1, by omega, HIT.out, hbw2, HV⟩
          case measure => rw [HM.out, HM0.out]; omega
      · obtain ⟨d1, d2, d3, d4, d5, d6⟩ := decode_high s k hlt (by omega)
        generalize Utf8.decode s k = d at *
        obtain ⟨p, n⟩ := d
        simp only at hnx d1 d2 d3 d4 d5 d6
        have HV := Lib.hid (noAny_more hno.out (n := n) (fun j x ha hj hx => by
          have := d6 j x ha hj hx
          have : x ∉ seps := by
            intro hm
            simp [seps] at hm
            rcases hm with rfl | rfl | rfl | rfl <;> revert this <;> decide
          simpa using this))
        have hit2 := Lib.iterAt_heap wr w.heap.size s k (k + n) hit
        have hbw2 := Lib.below_iterAt hbw (k := w.heap.size) (Nat.le_refl _) s (k + n)
        have hm0 : wr.iterPos w.heap.size = k := by simp [World.iterPos, hit]
        have hz2 : w.heap.size < (wr.iterAt w.heap.size s (k + n)).heap.size := by rw [Lib.iterAt_size]; exact hbsz
        generalize wr.iterAt w.heap.size s (k + n) = wi at *
        have hrh := rune_high p wi d1 d2 d3
        have HM0 := Lib.hid hm0
        have HIT := Lib.hid hit2
        clear hm0 hit2 hit d6 hb
        go_wp2_with fail
        refine hrh.mono ?_
        clear hrh
        rintro e w2 ⟨rfl, b2⟩
        have hit3 : w2.heap[w.heap.size]? = some (.stringIter s (k + n)) := (b2.block w.heap.size hz2).trans HIT.out
        have B2 := hbw2.trans (b2.mono (Nat.le_of_lt hz2))
        have hm : w2.iterPos w.heap.size = k + n := by simp [World.iterPos, hit3]
        have HM := Lib.hid hm
        have HIT3 := Lib.hid hit3
        clear hm hit3
        go_wp2
        go_roundw
        case rel => exact ⟨k + n, d5, HIT3.out, B2, HV⟩
        case measure => rw [HM.out, HM0.out]; omega
    · have hnx : ∀ ty, (Instr.next (.pointer (some ⟨w.heap.size, 0, none⟩)) true ty).run Tryz.prog wr = _ := fun ty => Lib.run_next_end_at wr w.heap.size s k ty hit hlt
      have HV := Lib.hid (Lib.indexAny_none (s := s.data.toList) (chars := seps) (by rw [← HL.out, show s.size = k by omega]; exact hno.out))
      clear hit
      go_wp2
      go_ret
      exact ⟨ret_int HV.out.symm, hbw⟩
theorem indexAny_sep (s : ByteArray) (w : World) (hs : s.size ≤ 1000000) : Calls Tryz.prog 75 #[.string s, .string ⟨#[58, 47, 63, 35]⟩] w fun e w' => e = .returned (.int .i64 (indexAny s.data.toList seps)) ∧ Below w.heap.size w w' := by
  by_cases h8 : s.size ≤ 8
  · exact indexAny_short s w h8
  · exact libIndexAnyLong s ⟨#[58, 47, 63, 35]⟩ w (by decide) h8 (by omega) (by decide) (ascii_seps)
end Go.Proofs.YtlgggibdgfdmhaaGreatDoor
