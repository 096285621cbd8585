/-
  Of the proofs of layer 8 (elements of XML): the parts XJ XK. No conditions.
-/
import Derived.Test.YtklcjimmbkpbdaaGreatDoorZ14
import Derived.DeepKeys4
import Derived.WideKeyEntry
namespace Go.Proofs.YtklcjimmbkpbdaaGreatDoor
open Go.RowKit
open Go.Lib
open Go.Maps
theorem laid_out8 : laidOutB Tryz.prog = true := by kernel_rfl
theorem key_wide8 : (match Tryz.prog.underlying TA3 with | some (.array _ _) | some (.struct _) => true | _ => false) = true := by kernel_rfl
theorem size_types8 : Tryz.prog.types.size = 195 + 2 := by kernel_rfl
theorem row8 : TA3 < Tryz.prog.types.size := by rw [size_types8]; decide
theorem key_at8 : Tryz.prog.keyTypeAt 3 TA3 = true := by kernel_rfl
set_option maxRecDepth 100000 in
theorem law8 : WideMaps.KeyLaw Tryz.prog TA3 := deep_law_laid laid_out8 (m := 3) (by omega) row8 key_at8 key_wide8
theorem keyed8 : Keyed Tryz.prog TA3 := Keyed.of_law law8
theorem key_type8 : Tryz.prog.keyType TA3 = true := by kernel_rfl
def klit (x y : Bt) : Lit := .string (keyBytes [.string x, .string y, .string []])
theorem keyAttr {x y : Bt} (hx : x.length ≤ 100000) (hy : y.length ≤ 100000) : keyOf Tryz.prog TA3 (.agg #[sV x, sV y, .string ⟨#[]⟩]) = some (klit x y) := by
 have hu := Tryz.underlying52
 have hx' : (bs x).size ≤ maxLen := by rw [bs_size]; unfold maxLen; omega
 have hy' : (bs y).size ≤ maxLen := by rw [bs_size]; unfold maxLen; omega
 have hk := key_type8
 have hc : Tryz.prog.cellsOf TA3 = 3 := by kernel_rfl
 have hcs : Tryz.prog.cellsOf 9 = 1 := by kernel_rfl
 have hf : (Value.agg #[sV x, sV y, .string ⟨#[]⟩]).formed Tryz.prog TA3 = true := by
  unfold Value.formed
  simp only [hu, hc]
  rfl
 unfold keyOf
 simp only [hu]
 rw [hk, hf, size_types8]
 have hS : ∀ (d : Nat) (s : ByteArray), s.size ≤ maxLen → Tryz.prog.keyLits (d + 1) 9 [.string s] = some [.string s.data.toList] := fun d s hs => by
  unfold Program.keyLits
  simp [hs]
 rw [show (true && true) = true from rfl, if_pos rfl]
 unfold Program.keyLits
 simp only [hu, Value.cells, hc]
 rw [if_pos ⟨rfl, by decide +kernel⟩]
 have h0 : ∀ d, Tryz.prog.keyLits (d + 1) 9 [.string ⟨#[]⟩] = some [.string []] := fun d => hS d ⟨#[]⟩ (by decide)
 simp [hcs, hS, h0, hx', hy', bs_list, klit]
theorem setBlock_self {w : World} {b : Nat} {o : Obj} (h : w.heap[b]? = some o) : ChangeMaps.setBlock w b o = w := by
 unfold ChangeMaps.setBlock
 have : w.heap.setIfInBounds b o = w.heap := by
  apply Array.ext_getElem?
  intro i
  rw [Array.getElem?_setIfInBounds]
  split
  ·rename_i e
   subst e
   split
   ·exact h.symm
   ·rename_i hn
    rw [Array.getElem?_eq_none (by omega)]
  ·rfl
 rw [this]
theorem setBlock_twice (w : World) (b : Nat) (o o' : Obj) : ChangeMaps.setBlock (ChangeMaps.setBlock w b o) b o' = ChangeMaps.setBlock w b o' := by
 unfold ChangeMaps.setBlock
 simp
abbrev TMp : TypeId := 146
theorem zero_int8 (u : World) : (zeroValue 3).run Tryz.prog u = .ok (.int .i64 0) u := by kernel_rfl
set_option maxRecDepth 100000 in
theorem MapIs.entry {b : Nat} {E : Ents} {w : World} (H : MapIs Tryz.prog TA3 b E w) (hn : E.length < maxLen) {key : Value} {kl : Lit} (hkey : keyOf Tryz.prog TA3 key = some kl) :
    ∃ (st : Nat) (W1 : World), (Instr.mapEntry TMp (.map (some b)) key).run Tryz.prog w = .ok (.tuple #[(lookE E kl).getD (.int .i64 0), goInt st]) W1 ∧
     (Instr.lookup TMp (.map (some b)) key false).run Tryz.prog W1 = .ok ((lookE E kl).getD (.int .i64 0)) W1 ∧
     ∀ val, ∃ W2, (Instr.entryStore TMp (.map (some b)) (goInt st) val).run Tryz.prog W1 = .ok () W2 ∧ MapIs Tryz.prog TA3 b (putE E kl val) W2 ∧ w.grownBy W2 (some b) := by
 have ht : Tryz.prog.underlying TMp = some (.map TA3 3) := Tryz.underlying146
 have H0 := H
 obtain ⟨h1, es, h2, h3⟩ := H
 obtain ⟨ms, clock, hb, F, hs, hD⟩ := h2
 obtain ⟨v0, st, es1, clock1, e1, e2, e3⟩ := Go.WideElems.entry_then_store law8 ht zero_int8 hb F hkey
 have hb1 : (ChangeMaps.setBlock w b (.map es1 clock1)).heap[b]? = some (.map es1 clock1) := ChangeMaps.heap_setBlock_same hb _
 have hlook := H0.look keyed8 ht (zero_int8 w) hkey
 -- what the map asked anew tells
 have key2 : v0 = (lookE E kl).getD (.int .i64 0) ∧ (Instr.lookup TMp (.map (some b)) key false).run Tryz.prog (ChangeMaps.setBlock w b (.map es1 clock1)) = .ok ((lookE E kl).getD (.int .i64 0)) (ChangeMaps.setBlock w b (.map es1 clock1)) := by
  rcases keyed8.find w hkey ms.toList F.keys with ⟨f1, f2⟩ | ⟨j, e0, f1, f2, f3⟩
  ·have hE : (Instr.mapEntry TMp (.map (some b)) key).run Tryz.prog w = .ok (.tuple #[.int .i64 0, goInt clock]) (ChangeMaps.setBlock w b (.map (ms.push ⟨key, .int .i64 0, clock⟩) (clock + 1))) := by
    simp [Instr.mapEntry, run_underlying ht, MapKept.run_getObj_map hb, keyed8.check w false hkey, f1, MapKept.run_setObj_map _ hb, Result.andThen, ChangeMaps.setBlock]
   rw [e1] at hE
   injection hE with hE1 hE2
   have hU : (Instr.mapUpdate TMp (.map (some b)) key (.int .i64 0)).run Tryz.prog w = .ok () (ChangeMaps.setBlock w b (.map (ms.push ⟨key, .int .i64 0, clock⟩) (clock + 1))) := by
    simp [Instr.mapUpdate, run_underlying ht, MapKept.run_getObj_map hb, keyed8.check w false hkey, f1, MapKept.run_setObj_map _ hb, Result.andThen, ChangeMaps.setBlock]
   obtain ⟨w', u1, u2, _⟩ := H0.store keyed8 ht hn hkey (val := .int .i64 0)
   rw [hU] at u1
   injection u1 with _ u1
   rw [← u1, ← hE2] at u2
   have hl2 := u2.look keyed8 ht (zero_int8 _) hkey
   have hp : lookE (putE E kl (.int .i64 0)) kl = some (.int .i64 0) := by
    unfold lookE putE dropE
    rw [List.find?_append]
    have hnone : (E.filter fun p => !p.1.sameKey kl).find? (fun p => p.1.sameKey kl) = none := by
     rw [List.find?_eq_none]
     intro x hx
     have := (List.mem_filter.1 hx).2
     simpa using this
    rw [hnone]
    simp [WideAt.sameKey_self (keyed8.key hkey)]
   have hle : (lookE E kl).getD (.int .i64 0) = .int .i64 0 := by
    have hL : (Instr.lookup TMp (.map (some b)) key false).run Tryz.prog w = .ok (.int .i64 0) w := by
     simp [Instr.lookup, run_underlying ht, MapKept.run_getObj_map hb, keyed8.check w ms.isEmpty hkey, f1, Result.andThen]
    rw [hL] at hlook
    injection hlook with hlook _
    exact hlook.symm
   rw [hp] at hl2
   have hv0 : v0 = .int .i64 0 := by
    injection hE1 with hE1
    have := congrArg (fun a => a.toList) hE1
    simpa using (List.cons.inj this).1
   exact ⟨by rw [hv0, hle], by rw [hle]; exact hl2⟩
  ·have hE : (Instr.mapEntry TMp (.map (some b)) key).run Tryz.prog w = .ok (.tuple #[e0.val, goInt e0.born]) (ChangeMaps.setBlock w b (.map ms clock)) := by
    have f4 : ms[j]? = some e0 := by rw [← Array.getElem?_toList]; exact f2
    have hmod : (ms.modify j fun e => { key := key, val := e.val, born := e.born }) = ms := by
     apply Array.ext_getElem?
     intro i
     rw [Array.getElem?_modify]
     split
     ·rename_i e
      subst e
      rw [f4, Option.map_some, ← f3]
     ·rfl
    simp [Instr.mapEntry, run_underlying ht, MapKept.run_getObj_map hb, keyed8.check w false hkey, f1, f4, f3, keyed8.stays w hkey, hmod, MapKept.run_setObj_map _ hb, Result.andThen, ChangeMaps.setBlock]
   rw [e1] at hE
   injection hE with hE1 hE2
   rw [setBlock_self hb] at hE2
   rw [hE2]
   have hL : (Instr.lookup TMp (.map (some b)) key false).run Tryz.prog w = .ok e0.val w := by
    simp [Instr.lookup, run_underlying ht, MapKept.run_getObj_map hb, keyed8.check w ms.isEmpty hkey, f1, Result.andThen]
   have hv0 : v0 = e0.val := by
    injection hE1 with hE1
    have := congrArg (fun a => a.toList) hE1
    simpa using (List.cons.inj this).1
   rw [hL] at hlook
   injection hlook with hlook _
   exact ⟨by rw [hv0, hlook], by rw [← hlook]; exact hL⟩
 refine ⟨st, _, by rw [← key2.1]; exact e1, key2.2, fun val => ?_⟩
 obtain ⟨es', clock', s1, s2⟩ := e3 _ val hb1
 obtain ⟨w', u1, u2, u3⟩ := H0.store keyed8 ht hn hkey (val := val)
 rw [s2] at u1
 injection u1 with _ u1
 rw [setBlock_twice, u1] at s1
 exact ⟨w', s1, u2, u3⟩
def SmallA (l : List XA) : Prop := ∀ a ∈ l, a.1.length ≤ 100000 ∧ a.2.1.length ≤ 100000
theorem klit_inj {x y x' y' : Bt} (hx : x.length ≤ 100000) (hy : y.length ≤ 100000) (hx' : x'.length ≤ 100000) (hy' : y'.length ≤ 100000) (h : klit x y = klit x' y') : x = x' ∧ y = y' := by
 have h1 := keyAttr hx hy
 have h2 := keyAttr hx' hy'
 rw [← h] at h2
 have h3 := keyed8.inj h1 h2
 injection h3 with h3
 have h4 := congrArg (fun a => a.toList) h3
 have h5 := List.cons.inj h4
 have h6 := List.cons.inj h5.2
 injection h5.1 with h7
 injection h6.1 with h8
 exact ⟨bs_inj h7, bs_inj h8⟩
def entsA (l : List XA) : Ents := l.map fun a => (klit a.1 a.2.1, .int .i64 1)
theorem klit_same {x y : Bt} {kl : Lit} : (klit x y).sameKey kl = true ↔ klit x y = kl := by
 constructor
 ·intro h; exact WideAt.sameKey_eq h
 ·intro h; subst h; exact WideAt.sameKey_self (by unfold klit; trivial)
theorem look_in {l : List XA} {a : XA} (hs : SmallA l) (ha : a.1.length ≤ 100000 ∧ a.2.1.length ≤ 100000) :
    (((a.1, a.2.1) ∈ l.map fun a => (a.1, a.2.1)) ∧ lookE (entsA l) (klit a.1 a.2.1) = some (.int .i64 1)) ∨
    ((a.1, a.2.1) ∉ (l.map fun a => (a.1, a.2.1)) ∧ lookE (entsA l) (klit a.1 a.2.1) = none ∧ dropE (entsA l) (klit a.1 a.2.1) = entsA l) := by
 by_cases h : (a.1, a.2.1) ∈ l.map fun a => (a.1, a.2.1)
 ·left
  refine ⟨h, ?_⟩
  unfold lookE
  cases hf : (entsA l).find? (fun p => p.1.sameKey (klit a.1 a.2.1)) with
  | none =>
   exfalso
   rw [List.find?_eq_none] at hf
   obtain ⟨x, hx, he⟩ := List.mem_map.1 h
   have := hf _ (List.mem_map.2 ⟨x, hx, rfl⟩)
   injection he with h1 h2
   rw [h1, h2] at this
   exact this (klit_same.2 rfl)
  | some p =>
   obtain ⟨x, hx, he⟩ := List.mem_map.1 (List.mem_of_find?_eq_some hf)
   rw [← he]
   rfl
 ·right
  have hno : ∀ p ∈ entsA l, ¬ (p.1.sameKey (klit a.1 a.2.1) = true) := by
   intro p hp hk
   obtain ⟨x, hx, he⟩ := List.mem_map.1 hp
   rw [← he] at hk
   have hb := hs x hx
   obtain ⟨h1, h2⟩ := klit_inj hb.1 hb.2 ha.1 ha.2 (klit_same.1 hk)
   exact h (List.mem_map.2 ⟨x, hx, by rw [h1, h2]⟩)
  refine ⟨h, ?_, ?_⟩
  ·unfold lookE
   rw [List.find?_eq_none.2 hno]
   rfl
  ·unfold dropE
   rw [List.filter_eq_self]
   intro p hp
   simpa using hno p hp
theorem uniq_snoc {l : List XA} {a : XA} : uniqX (l ++ [a]) = (uniqX l && !decide ((a.1, a.2.1) ∈ l.map fun a => (a.1, a.2.1))) := by
 unfold uniqX
 rw [Bool.eq_iff_iff, Bool.and_eq_true, decide_eq_true_eq, decide_eq_true_eq, Bool.not_eq_true', decide_eq_false_iff_not, List.map_append, List.nodup_append]
 constructor
 ·rintro ⟨h1, _, h3⟩
  exact ⟨h1, fun hm => h3 _ hm _ (by simp) rfl⟩
 ·rintro ⟨h1, h2⟩
  refine ⟨h1, by simp, fun x hx y hy e => ?_⟩
  simp at hy
  subst e
  rw [hy] at hx
  exact h2 hx
theorem uniq_pre {l : List XA} {k : Nat} (h : uniqX (l.take k) = false) : uniqX l = false := by
 unfold uniqX at *
 rw [decide_eq_false_iff_not] at *
 intro hn
 apply h
 rw [List.map_take]
 exact hn.sublist (List.take_sublist _ _)
set_option maxRecDepth 100000 in
set_option maxHeartbeats 2000000 in
theorem unique_any {T : Nat → Prop} {A : Option Addr} {c : Nat} {l : List XA} {w : World} (hR : RC w T A (cA l)) (hs : SmallA l) (hl : l.length ≤ 1000000) :
    Calls Tryz.prog 91 #[.slice A l.length c] w (fun e w' => e = .returned (.bool (uniqX l)) ∧ Below w.heap.size w w') := by
 have HU : Hid (∃ u, uniqX l = u) := hid ⟨_, rfl⟩
 obtain ⟨n, hn⟩ : ∃ n, l.length = n := ⟨_, rfl⟩
 have HN := hid hn
 have HR := hid hR
 have HS := hid hs
 have hmm := @run_makeMap Tryz.prog
 have HM0 : Hid (MapIs Tryz.prog TA3 w.heap.size [] (w.alloc (.map #[] 0))) := hid (MapIs.made _ _ _)
 rw [hn] at hl ⊢
 clear hR hs hn
 go_enter Tryz.func91, Tryz.ntmps91
 go_wp2
 go_loopw [9] (fun i wr => ∃ k : Nat, k ≤ n ∧ i = .int .i64 k ∧ Hid (MapIs Tryz.prog TA3 w.heap.size (entsA (l.take k)) wr) ∧ Hid (Below w.heap.size w wr) ∧ Hid (uniqX (l.take k) = true)) (fun i _ => n - (RowKit.intOf i).toNat)
 case atStart => exact ⟨0, Nat.zero_le _, rfl, HM0, hid ((Below.refl _ _).alloc (Nat.le_refl _) _), hid (by simp [uniqX])⟩
 case round =>
  clear HM0
  obtain ⟨k, hk, rfl, HM, HB, HQ⟩ := hrel
  by_cases hlt : k < n
  ·have hkl : k < l.length := by rw [HN.out]; exact hlt
   obtain ⟨bb, off, hAe, hT, hbl, hcl⟩ := HR.out (by rw [cA_len]; omega)
   obtain ⟨c0, c1, c2⟩ := RC.a3 hcl k hkl
   have hsa := HS.out _ (List.getElem_mem hkl)
   have HTK := hid (List.take_succ_eq_append_getElem hkl)
   obtain ⟨a, ha⟩ : ∃ a, l[k] = a := ⟨_, rfl⟩
   rw [ha] at c0 c1 c2 hsa HTK
   have hb := HB.out
   have y0 := (hb.cell (p := ⟨bb, off + k * 3, none⟩) hbl).trans c0
   have y1 := (hb.cell (p := ⟨bb, off + k * 3 + 1, none⟩) hbl).trans c1
   have y2 := (hb.cell (p := ⟨bb, off + k * 3 + 2, none⟩) hbl).trans c2
   subst hAe
   clear c0 c1 c2 hcl ha
   have HSA := hid hsa
   clear hsa hmm
   have hlt2 := HM.out.lt
   have HMW : MapIs Tryz.prog TA3 w.heap.size (entsA (l.take k)) (wr.alloc (.cells #[sV a.1, sV a.2.1, .string ⟨#[]⟩] TA3)).drew := (HM.out.kept (grown_alloc wr (.cells #[sV a.1, sV a.2.1, .string ⟨#[]⟩] TA3 (0, 0)) none) (by simp)).kept (row := none) (grown_below (below_drewN (Below.refl _ _) 1) none) (by simp)
   have hBW : Below wr.heap.size wr (wr.alloc (.cells #[sV a.1, sV a.2.1, .string ⟨#[]⟩] TA3)).drew := below_drewN (below_alloc8 wr (.cells #[sV a.1, sV a.2.1, .string ⟨#[]⟩] TA3 (0, 0))) 1
   have hBlk : Blk wr.heap.size (.cells #[sV a.1, sV a.2.1, .string ⟨#[]⟩] TA3 (0, 0)) (wr.alloc (.cells #[sV a.1, sV a.2.1, .string ⟨#[]⟩] TA3)).drew := Blk.new _ wr
   have hkey := keyAttr HSA.out.1 HSA.out.2
   have hlen : (entsA (l.take k)).length < maxLen := by unfold entsA maxLen; rw [List.length_map, List.length_take]; omega
   have hsub : SmallA (l.take k) := fun x hx => HS.out x (List.mem_of_mem_take hx)
   obtain ⟨D, hD⟩ : ∃ D, (wr.alloc (.cells #[sV a.1, sV a.2.1, .string ⟨#[]⟩] TA3)).drew = D := ⟨_, rfl⟩
   rw [hD] at HMW hBW hBlk
   obtain ⟨st, W1, hE, hL1, hSt⟩ := MapIs.entry HMW hlen hkey
   have hL0 := HMW.look keyed8 Tryz.underlying146 (zero_int8 D) hkey
   have z0 := hBlk.cell 0
   have z1 := hBlk.cell 1
   have z2 := hBlk.cell 2
   have hwr : w.heap.size ≤ wr.heap.size := HB.out.size
   rcases look_in (l := l.take k) (a := a) hsub HSA.out with ⟨hin, hlk⟩ | ⟨hin, hlk, hdrop⟩
   ·have HUF : Hid (uniqX l = false) := hid (uniq_pre (k := k + 1) (by rw [HTK.out, uniq_snoc, decide_eq_true hin]; simp))
    clear hin
    obtain ⟨W2, hS2, HM2, hG2⟩ := hSt (.int .i64 2)
    have hL2 := HM2.look keyed8 Tryz.underlying146 (zero_int8 W2) hkey
    have hB2 := hBlk.grown hG2 (by simp; omega)
    have q0 := hB2.cell 0
    have q1 := hB2.cell 1
    have q2 := hB2.cell 2
    rw [hlk] at hE hL1 hL0
    have hput : (lookE (putE (entsA (l.take k)) (klit a.1 a.2.1) (.int .i64 2)) (klit a.1 a.2.1)).getD (.int .i64 0) = .int .i64 2 := by
     have : lookE (putE (entsA (l.take k)) (klit a.1 a.2.1) (.int .i64 2)) (klit a.1 a.2.1) = some (.int .i64 2) := by
      unfold lookE putE
      rw [List.find?_append]
      have hnone : (dropE (entsA (l.take k)) (klit a.1 a.2.1)).find? (fun p => p.1.sameKey (klit a.1 a.2.1)) = none := by
       rw [List.find?_eq_none]
       intro x hx
       have := (List.mem_filter.1 hx).2
       simpa using this
      rw [hnone]
      simp [klit_same.2 rfl]
     rw [this]
     rfl
    rw [hput] at hL2
    have HG2 := hid hG2
    have HM2' := hid HM2
    have HBW := hid hBW
    have e1 : IntKind.i64.wrap (1 + 1) = 2 := by decide
    have hE' : (Instr.mapEntry TMp (.map (some w.heap.size)) (.agg #[sV a.1, sV a.2.1, .string ⟨#[]⟩])).run Tryz.prog D = .ok (.tuple #[.int .i64 1, .int .i64 st]) W1 := hE
    have hL1' : (Instr.lookup TMp (.map (some w.heap.size)) (.agg #[sV a.1, sV a.2.1, .string ⟨#[]⟩]) false).run Tryz.prog W1 = .ok (.int .i64 1) W1 := hL1
    have hL0' : (Instr.lookup TMp (.map (some w.heap.size)) (.agg #[sV a.1, sV a.2.1, .string ⟨#[]⟩]) false).run Tryz.prog D = .ok (.int .i64 1) D := hL0
    have hS2' : (Instr.entryStore TMp (.map (some w.heap.size)) (.int .i64 st) (.int .i64 2)).run Tryz.prog W1 = .ok () W2 := hS2
    have hL2' : (Instr.lookup TMp (.map (some w.heap.size)) (.agg #[sV a.1, sV a.2.1, .string ⟨#[]⟩]) false).run Tryz.prog W2 = .ok (.int .i64 2) W2 := hL2
    clear hE hL1 hL0 hS2 hL2 hput hlk hSt hG2 HM2 hB2 hBlk HMW hkey hlen hsub hBW
    go_wp2
    subst hD
    go_region
    all_goals
     go_wp2
     go_ret
     exact ⟨ret_b6 HUF.out.symm, (((Off.ofB (F := fun x => x = w.heap.size) HB.out).thenB HBW.out).then ((Off.of_grown HG2.out).mono (fun x hx => (Option.some.inj hx).symm))).below (fun x hx => by rw [hx]; exact Nat.le_refl _)⟩
   ·have HUK : Hid (uniqX (l.take (k + 1)) = true) := hid (by rw [HTK.out, uniq_snoc, HQ.out, decide_eq_false hin]; rfl)
    have HEN : Hid (entsA (l.take (k + 1)) = putE (entsA (l.take k)) (klit a.1 a.2.1) (.int .i64 1)) := hid (by rw [HTK.out]; unfold putE; rw [hdrop]; simp [entsA])
    clear hin hdrop
    obtain ⟨W2, hS2, HM2, hG2⟩ := hSt (.int .i64 1)
    have hL2 := HM2.look keyed8 Tryz.underlying146 (zero_int8 W2) hkey
    have hB2 := hBlk.grown hG2 (by simp; omega)
    have q0 := hB2.cell 0
    have q1 := hB2.cell 1
    have q2 := hB2.cell 2
    rw [hlk] at hE hL1 hL0
    have hput : (lookE (putE (entsA (l.take k)) (klit a.1 a.2.1) (.int .i64 1)) (klit a.1 a.2.1)).getD (.int .i64 0) = .int .i64 1 := by
     have : lookE (putE (entsA (l.take k)) (klit a.1 a.2.1) (.int .i64 1)) (klit a.1 a.2.1) = some (.int .i64 1) := by
      unfold lookE putE
      rw [List.find?_append]
      have hnone : (dropE (entsA (l.take k)) (klit a.1 a.2.1)).find? (fun p => p.1.sameKey (klit a.1 a.2.1)) = none := by
       rw [List.find?_eq_none]
       intro x hx
       have := (List.mem_filter.1 hx).2
       simpa using this
      rw [hnone]
      simp [klit_same.2 rfl]
     rw [this]
     rfl
    rw [hput] at hL2
    have HG2 := hid hG2
    have HM2' := hid HM2
    have HBW := hid hBW
    have e1 : IntKind.i64.wrap (0 + 1) = 1 := by decide
    have hE' : (Instr.mapEntry TMp (.map (some w.heap.size)) (.agg #[sV a.1, sV a.2.1, .string ⟨#[]⟩])).run Tryz.prog D = .ok (.tuple #[.int .i64 0, .int .i64 st]) W1 := hE
    have hL1' : (Instr.lookup TMp (.map (some w.heap.size)) (.agg #[sV a.1, sV a.2.1, .string ⟨#[]⟩]) false).run Tryz.prog W1 = .ok (.int .i64 0) W1 := hL1
    have hL0' : (Instr.lookup TMp (.map (some w.heap.size)) (.agg #[sV a.1, sV a.2.1, .string ⟨#[]⟩]) false).run Tryz.prog D = .ok (.int .i64 0) D := hL0
    have hS2' : (Instr.entryStore TMp (.map (some w.heap.size)) (.int .i64 st) (.int .i64 1)).run Tryz.prog W1 = .ok () W2 := hS2
    have hL2' : (Instr.lookup TMp (.map (some w.heap.size)) (.agg #[sV a.1, sV a.2.1, .string ⟨#[]⟩]) false).run Tryz.prog W2 = .ok (.int .i64 1) W2 := hL2
    clear hE hL1 hL0 hS2 hL2 hput hlk hSt hG2 HM2 hB2 hBlk HMW hkey hlen hsub hBW
    go_wp2
    subst hD
    go_region
    all_goals
     go_wp2
     go_roundw
     case rel => exact ⟨k + 1, by omega, by go_num, hid (by rw [HEN.out]; exact HM2'.out), hid ((((Off.ofB (F := fun x => x = w.heap.size) HB.out).thenB HBW.out).then ((Off.of_grown HG2.out).mono (fun x hx => (Option.some.inj hx).symm))).below (fun x hx => by rw [hx]; exact Nat.le_refl _)), HUK⟩
     case measure => simp [RowKit.intOf]; omega
  ·obtain rfl : k = n := by omega
   go_wp2
   go_ret
   have := HQ.out
   rw [List.take_of_length_le (by rw [HN.out]; exact Nat.le_refl _)] at this
   exact ⟨ret_b6 this.symm, HB.out⟩
end Go.Proofs.YtklcjimmbkpbdaaGreatDoor
