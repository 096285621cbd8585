/-
  The walks of the document's One and Text: the bytes of code points. Conditions: code points all, at most a million of them.
-/
import Derived.Test.YtklcjimmbkpbdaaGreatDoorZ03
import Derived.Laws.IdiomStrings
import Derived.Laws.BytesArg
namespace Go.Proofs.YtklcjimmbkpbdaaGreatDoor
open Go.RowKit
open Go.Lib
def OneOut (p : Int) (w : World) (e : Ending) (w' : World) : Prop :=
 e = .returned (.slice (some ⟨w.heap.size, 0, none⟩) (runeCells p).length (runeCells p).length) ∧ w' = w.alloc (.cells (runeCells p).toArray 5)
theorem OneOut.of {p : Int} {w : World} {n : Nat} {cs : Array Value} (h : runeCells p = cs.toList) (hn : cs.size = n) : OneOut p w (.returned (.slice (some ⟨w.heap.size, 0, none⟩) n n)) (w.alloc (.cells cs 5)) := by
 subst hn
 unfold OneOut
 rw [h]
 exact ⟨by simp, by simp⟩
set_option maxRecDepth 100000 in
theorem one_any (p : Int) (w : World) (h0 : 0 ≤ p) (h1 : p ≤ 1114111) (h2 : p < 55296 ∨ 57343 < p) : Calls Tryz.prog 72 #[.int .i64 p] w (OneOut p w) := by
 by_cases a : p < 128
 ·have H := hid (show runeCells p = [.int .u8 p] by simp [runeCells, encodeRuneZ_one h0 (by omega)])
  go_enter Tryz.func72, Tryz.ntmps72
  go_wp2
  go_ret
  exact OneOut.of H.out rfl
 by_cases b : p < 2048
 ·have H := hid (show runeCells p = [.int .u8 (192 + p / 64), .int .u8 (128 + p % 64)] by simp [runeCells, encodeRuneZ_two (show 128 ≤ p by omega) (by omega)])
  go_enter Tryz.func72, Tryz.ntmps72
  go_wp2
  go_ret
  exact OneOut.of H.out rfl
 by_cases c : p < 65536
 ·have H := hid (show runeCells p = [.int .u8 (224 + p / 4096), .int .u8 (128 + p / 64 % 64), .int .u8 (128 + p % 64)] by simp [runeCells, encodeRuneZ_three (show (2048 ≤ p ∧ p < 55296) ∨ (57343 < p ∧ p ≤ 65535) by omega)])
  clear h2
  go_enter Tryz.func72, Tryz.ntmps72
  go_wp2
  go_ret
  exact OneOut.of H.out rfl
 ·have H := hid (show runeCells p = [.int .u8 (240 + p / 262144), .int .u8 (128 + p / 4096 % 64), .int .u8 (128 + p / 64 % 64), .int .u8 (128 + p % 64)] by simp [runeCells, encodeRuneZ_four (show 65536 ≤ p by omega) h1])
  clear h2
  go_enter Tryz.func72, Tryz.ntmps72
  go_wp2
  go_ret
  exact OneOut.of H.out rfl
theorem c1_many (w : World) (cs : List Value) (t : TypeId) : ∀ j u, cs[j]? = some u → (w.alloc (.cells cs.toArray t)).cell? ((⟨w.heap.size, 0, none⟩ : Addr).add j) = some u := by
 intro j u hj
 have e : (⟨w.heap.size, 0, none⟩ : Addr).add j = ⟨w.heap.size, j, none⟩ := by unfold Addr.add; split <;> simp_all
 rw [e, World.cell?_alloc_at _ _ _ _ rfl]
 simpa using hj
theorem c2_many (p : Int) : ∀ u ∈ runeCells p, u.oneCell' = true := by
 intro u hu
 unfold runeCells at hu
 obtain ⟨x, _, rfl⟩ := List.mem_map.1 hu
 rfl
theorem conv_own {w : World} {base : Nat} {v : Value} {bs : List UInt8} (h : w.ownsRow base 5 1 v bs.length (byteCells bs)) : (convert 22 9 v).run Tryz.prog w = .ok (.string ⟨bs.toArray⟩) w := by
 rcases h.2 with ⟨rfl, hn⟩ | ⟨g, cap, cur, rfl, hb, hh, hc, _, _, _⟩
 ·have : bs = [] := List.eq_nil_of_length_eq_zero hn
  subst this
  exact run_convert_bytes_nil w 22 5 Tryz.underlying22 Tryz.underlying5 0 0 9 Tryz.underlying9
 ·refine run_convert_bytes_back w 22 9 5 ⟨g, 0, none⟩ cap bs Tryz.underlying22 Tryz.underlying5 Tryz.underlying9 fun j hj => ?_
  have e : (⟨g, 0, none⟩ : Addr).add j = ⟨g, j, none⟩ := by unfold Addr.add; split <;> simp_all
  rw [e, h.cellAt j (by omega)]
  simp [byteCells, List.getElem?_eq_getElem hj]
theorem own_bytes {w w1 w0 : World} {base B : Nat} {v v' : Value} {bs : List UInt8} {p : Int} {o : Obj} (hB : B ≤ base) (hown : w.ownsRow base 5 1 v bs.length (byteCells bs)) (hb : Below B w0 w) (hBw : B ≤ w.heap.size)
    (hown' : w1.ownsRow base 5 1 v' (bs.length + (runeCells p).length) (byteCells bs ++ runeCells p)) (hg : (w.alloc o).grownBy w1 v.ownBlock) :
    w1.ownsRow base 5 1 v' (bs ++ encodeRune p).length (byteCells (bs ++ encodeRune p)) ∧ Below B w0 w1 := by
 refine ⟨?_, ?_⟩
 ·rw [byteCells_append, byteCells_encodeRune, List.length_append, ← runeCells_length]; exact hown'
 ·refine (hb.alloc hBw o).grown hg (by simp; omega) (fun k hk => ?_)
  have := (hown.lt k hk).1
  omega
set_option maxRecDepth 100000 in
set_option maxHeartbeats 1000000 in
theorem text_any (A : Option Addr) (c : Nat) (l : List Int) (w : World) (hl : l.length ≤ 10000000) (hp : AllPt l) (hR : RI w A l) :
    Calls Tryz.prog 48 #[.slice A l.length c] w fun e w' => e = .returned (.string ⟨(enc l).toArray⟩) ∧ Below w.heap.size w w' := by
 obtain ⟨i0, hi, hz0, hz1, hz2⟩ := info_parts Tryz.infoB
 have HP := hid hp
 clear hp
 go_enter Tryz.func48, Tryz.ntmps48
 go_wp2
 go_loopw [3, 8] (fun v i wr => ∃ (k : Nat) (bs : List UInt8), k ≤ l.length ∧ i = .int .i64 k ∧ wr.ownsRow w.heap.size 5 1 v bs.length (byteCells bs) ∧ Below w.heap.size w wr ∧ bs.length ≤ 4 * k ∧ Hid (bs = enc (l.take k))) (fun _ i _ => l.length - (RowKit.intOf i).toNat)
 case atStart => exact ⟨0, [], Nat.zero_le _, rfl, World.ownsRow_nil _ _ _ _, Below.refl _ _, by simp, by simp [Hid, enc]⟩
 case round =>
  obtain ⟨k, bs, hk, rfl, hown, hbw, hbl, hbs⟩ := hrel
  have hbsz := hbw.size
  by_cases hlt : k < l.length
  ·obtain ⟨b, off, rfl, hblt, hcell⟩ := hR (by omega)
   have hx := (hbw.cell (p := ⟨b, off + k, none⟩) (by exact hblt)).trans (hcell k hlt)
   have HT := hid (List.take_succ_eq_append_getElem hlt)
   have HX : l.getD k 0 = l[k] := by simp [List.getD, List.getElem?_eq_getElem hlt]
   rw [HX] at hx
   have hpt := (isPt_iff _).1 (HP.out _ (List.getElem_mem hlt))
   generalize l[k] = z at *
   clear hcell HX
   have hF := hid (show (bs ++ encodeRune z) = enc (l.take (k + 1)) by rw [HT.out, hbs.out, enc_append]; simp [enc])
   obtain ⟨p0, p1, p2⟩ := hpt
   have hone := one_any z wr p0 p1 p2
   have hrl := runeCells_le z
   have hel := runeCells_length z
   have HEL := hid hel
   clear hel p2
   unfold OneOut at hone
   have hcc := c1_many wr (runeCells z) 5
   have hc2 := hid (c2_many z)
   have own2 : ∀ o, (wr.alloc o).ownsRow w.heap.size 5 1 u3 bs.length (byteCells bs) := fun o => hown.alloc o
   have R0 := hid (fun (v' : Value) (w1 : World) (o : Obj) => own_bytes (p := z) (v' := v') (w1 := w1) (o := o) (Nat.le_refl _) hown hbw hbsz)
   obtain ⟨m, hm⟩ : ∃ m, (runeCells z).length = m := ⟨_, rfl⟩
   generalize hcs : runeCells z = cs at *
   have Hcs := hid hcs
   rw [hm] at hone hrl
   have Hm := hid hm
   clear hcs hm
   go_wp2_with fail
   refine hone.mono ?_
   clear hone
   rintro e w1 ⟨rfl, rfl⟩
   go_wp2_with (at_builtin; refine wpList_append_own _ rfl _ _ 22 rfl w.heap.size 5 i0 (.int .u8 0) 1 1 Tryz.underlying22 hi hz0 hz1 hz2 rfl (by decide) _ _ _ rfl (own2 _) ⟨wr.heap.size, 0, none⟩ m m cs rfl (by rw [Hm.out, Nat.mul_one]) hcc hc2.out (by unfold maxLen; omega) (by omega) (by simp; omega) ?_)
   intro v' w2 hown' hgrow _
   have R := R0.out v' w2 _ (by rw [Hm.out]; exact hown') hgrow
   clear hown' hgrow hown hbw own2 R0 hcc
   go_wp2
   go_roundw
   case rel => exact ⟨k + 1, bs ++ encodeRune z, by omega, by go_num, R.1, R.2, by rw [List.length_append, ← HEL.out, Hm.out]; omega, hF⟩
   case measure => simp [RowKit.intOf]; omega
  ·have hcv := conv_own hown
   have he := hid (show bs = enc l by have := hbs.out; rwa [List.take_of_length_le (by omega)] at this)
   go_wp2
   go_ret
   exact ⟨by rw [← he.out]; rfl, hbw⟩
end Go.Proofs.YtklcjimmbkpbdaaGreatDoor
