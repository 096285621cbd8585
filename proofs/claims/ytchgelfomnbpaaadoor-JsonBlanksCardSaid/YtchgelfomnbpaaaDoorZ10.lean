/-
  Of the proofs of layer 7 (values of JSON): the parts Text Ref Keep Make EA EB EC ED. No conditions.
-/
import Derived.Test.YtchgelfomnbpaaaDoorZ09
import Derived.Laws.IdiomStrings
import Derived.Laws.BytesArg
import Derived.Test.YtchgelfomnbpaaaDoorZ02
import Derived.Test.YtchgelfomnbpaaaDoorZ03
namespace Go.Proofs.YtchgelfomnbpaaaDoor
open Go.RowKit
open Go.Lib

/-- What One leaves. -/
def OneOut (p : Int) (w : World) (e : Ending) (w' : World) : Prop :=
  e = .returned (.slice (some ⟨w.heap.size, 0, none⟩) (runeCells p).length (runeCells p).length) ∧ w' = w.alloc (.cells (runeCells p).toArray 5)
theorem OneOut.of {p : Int} {w : World} {n : Nat} {cs : Array Value} (h : runeCells p = cs.toList) (hn : cs.size = n) : OneOut p w (.returned (.slice (some ⟨w.heap.size, 0, none⟩) n n)) (w.alloc (.cells cs 5)) := by
  subst hn
  unfold OneOut
  rw [h]
  exact ⟨by simp, by simp⟩
set_option maxRecDepth 100000 in
theorem one_any (p : Int) (w : World) (h0 : 0 ≤ p) (h1 : p ≤ 1114111) (h2 : p < 55296 ∨ 57343 < p) : Calls Tryd.prog 66 #[.int .i64 p] w (OneOut p w) := by
  by_cases a : p < 128
  · have H := Lib.hid (show runeCells p = [.int .u8 p] by simp [runeCells, encodeRuneZ_one h0 (by omega)])
    go_enter Tryd.func66, Tryd.ntmps66
    go_wp2
    go_ret
    exact OneOut.of H.out rfl
  by_cases b : p < 2048
  · have H := Lib.hid (show runeCells p = [.int .u8 (192 + p / 64), .int .u8 (128 + p % 64)] by simp [runeCells, encodeRuneZ_two (show 128 ≤ p by omega) (by omega)])
    go_enter Tryd.func66, Tryd.ntmps66
    go_wp2
    go_ret
    exact OneOut.of H.out rfl
  by_cases c : p < 65536
  · have H := Lib.hid (show runeCells p = [.int .u8 (224 + p / 4096), .int .u8 (128 + p / 64 % 64), .int .u8 (128 + p % 64)] by simp [runeCells, encodeRuneZ_three (show (2048 ≤ p ∧ p < 55296) ∨ (57343 < p ∧ p ≤ 65535) by omega)])
    clear h2
    go_enter Tryd.func66, Tryd.ntmps66
    go_wp2
    go_ret
    exact OneOut.of H.out rfl
  · have H := Lib.hid (show runeCells p = [.int .u8 (240 + p / 262144), .int .u8 (128 + p / 4096 % 64), .int .u8 (128 + p / 64 % 64), .int .u8 (128 + p % 64)] by simp [runeCells, encodeRuneZ_four (show 65536 ≤ p by omega) h1])
    clear h2
    go_enter Tryd.func66, Tryd.ntmps66
    go_wp2
    go_ret
    exact OneOut.of H.out rfl

theorem c1_many (w : World) (cs : List Value) (t : TypeId) : ∀ j u, cs[j]? = some u → (w.alloc (.cells cs.toArray t)).cell? ((⟨w.heap.size, 0, none⟩ : Addr).add j) = some u := by
  intro j u hj
  have e : (⟨w.heap.size, 0, none⟩ : Addr).add j = ⟨w.heap.size, j, none⟩ := by unfold Addr.add; split <;> simp_all
  rw [e, World.cell?_alloc_at _ _ _ _ rfl]
  simpa using hj
theorem c2_many (p : Int) : ∀ u ∈ runeCells p, u.oneCell' = true := by
  intro u hu
  unfold runeCells at hu
  obtain ⟨x, _, rfl⟩ := List.mem_map.1 hu
  rfl
theorem conv_own {w : World} {base : Nat} {v : Value} {bs : List UInt8} (h : w.ownsRow base 5 1 v bs.length (byteCells bs)) : (convert 22 9 v).run Tryd.prog w = .ok (.string ⟨bs.toArray⟩) w := by
  rcases h.2 with ⟨rfl, hn⟩ | ⟨g, cap, cur, rfl, hb, hh, hc, _, _, _⟩
  · have : bs = [] := List.eq_nil_of_length_eq_zero hn
    subst this
    exact run_convert_bytes_nil w 22 5 Tryd.underlying22 Tryd.underlying5 0 0 9 Tryd.underlying9
  · refine run_convert_bytes_back w 22 9 5 ⟨g, 0, none⟩ cap bs Tryd.underlying22 Tryd.underlying5 Tryd.underlying9 fun j hj => ?_
    have e : (⟨g, 0, none⟩ : Addr).add j = ⟨g, j, none⟩ := by unfold Addr.add; split <;> simp_all
    rw [e, h.cellAt j (by omega)]
    simp [byteCells, List.getElem?_eq_getElem hj]
theorem own_bytes {w w1 w0 : World} {base B : Nat} {v v' : Value} {bs : List UInt8} {p : Int} {o : Obj} (hB : B ≤ base) (hown : w.ownsRow base 5 1 v bs.length (byteCells bs)) (hb : Below B w0 w) (hBw : B ≤ w.heap.size)
    (hown' : w1.ownsRow base 5 1 v' (bs.length + (runeCells p).length) (byteCells bs ++ runeCells p)) (hg : (w.alloc o).grownBy w1 v.ownBlock) :
    w1.ownsRow base 5 1 v' (bs ++ encodeRune p).length (byteCells (bs ++ encodeRune p)) ∧ Below B w0 w1 := by
  refine ⟨?_, ?_⟩
  · rw [byteCells_append, byteCells_encodeRune, List.length_append, ← runeCells_length]; exact hown'
  · refine (hb.alloc hBw o).grown hg (by simp; omega) (fun k hk => ?_)
    have := (hown.lt k hk).1
    omega
set_option maxRecDepth 100000 in
set_option maxHeartbeats 1000000 in
theorem text_any (A : Option Addr) (c : Nat) (l : List Int) (w : World) (hl : l.length ≤ 10000000) (hp : AllPt l) (hR : RI w A l) :
    Calls Tryd.prog 50 #[.slice A l.length c] w fun e w' => e = .returned (.string ⟨(enc l).toArray⟩) ∧ Below w.heap.size w w' := by
  obtain ⟨i0, hi, hz0, hz1, hz2⟩ := info_parts Tryd.infoB
  have HP := Lib.hid hp
  clear hp
  go_enter Tryd.func50, Tryd.ntmps50
  go_wp2
  go_loopw [3, 8] (fun v i wr => ∃ (k : Nat) (bs : List UInt8), k ≤ l.length ∧ i = .int .i64 k ∧ wr.ownsRow w.heap.size 5 1 v bs.length (byteCells bs) ∧ Below w.heap.size w wr ∧ bs.length ≤ 4 * k ∧ Hid (bs = enc (l.take k))) (fun _ i _ => l.length - (RowKit.intOf i).toNat)
  case atStart => exact ⟨0, [], Nat.zero_le _, rfl, World.ownsRow_nil _ _ _ _, Below.refl _ _, by simp, by simp [Hid, enc]⟩
  case round =>
    obtain ⟨k, bs, hk, rfl, hown, hbw, hbl, hbs⟩ := hrel
    have hbsz := hbw.size
    by_cases hlt : k < l.length
    · obtain ⟨b, off, rfl, hblt, hcell⟩ := hR (by omega)
      have hx := (hbw.cell (p := ⟨b, off + k, none⟩) (by exact hblt)).trans (hcell k hlt)
      have HT := Lib.hid (List.take_succ_eq_append_getElem hlt)
      have HX : l.getD k 0 = l[k] := by simp [List.getD, List.getElem?_eq_getElem hlt]
      rw [HX] at hx
      have hpt := (isPt_iff _).1 (HP.out _ (List.getElem_mem hlt))
      generalize l[k] = z at *
      clear hcell HX
      have hF := Lib.hid (show (bs ++ encodeRune z) = enc (l.take (k + 1)) by rw [HT.out, hbs.out, enc_append]; simp [enc])
      obtain ⟨p0, p1, p2⟩ := hpt
      have hone := one_any z wr p0 p1 p2
      have hrl := runeCells_le z
      have hel := runeCells_length z
      have HEL := Lib.hid hel
      clear hel p2
      unfold OneOut at hone
      have hcc := c1_many wr (runeCells z) 5
      have hc2 := Lib.hid (c2_many z)
      have own2 : ∀ o, (wr.alloc o).ownsRow w.heap.size 5 1 u3 bs.length (byteCells bs) := fun o => hown.alloc o
      have R0 := Lib.hid (fun (v' : Value) (w1 : World) (o : Obj) => own_bytes (p := z) (v' := v') (w1 := w1) (o := o) (Nat.le_refl _) hown hbw hbsz)
      obtain ⟨m, hm⟩ : ∃ m, (runeCells z).length = m := ⟨_, rfl⟩
      generalize hcs : runeCells z = cs at *
      have Hcs := Lib.hid hcs
      rw [hm] at hone hrl
      have Hm := Lib.hid hm
      clear hcs hm
      go_wp2_with fail
      refine hone.mono ?_
      clear hone
      rintro e w1 ⟨rfl, rfl⟩
      go_wp2_with (at_builtin; refine wpList_append_own _ rfl _ _ 22 rfl w.heap.size 5 i0 (.int .u8 0) 1 1 Tryd.underlying22 hi hz0 hz1 hz2 rfl (by decide) _ _ _ rfl (own2 _) ⟨wr.heap.size, 0, none⟩ m m cs rfl (by rw [Hm.out, Nat.mul_one]) hcc hc2.out (by unfold maxLen; omega) (by omega) (by simp; omega) ?_)
      intro v' w2 hown' hgrow _
      have R := R0.out v' w2 _ (by rw [Hm.out]; exact hown') hgrow
      clear hown' hgrow hown hbw own2 R0 hcc
      go_wp2
      go_roundw
      case rel => exact ⟨k + 1, bs ++ encodeRune z, by omega, by go_num, R.1, R.2, by rw [List.length_append, ← HEL.out, Hm.out]; omega, hF⟩
      case measure => simp [RowKit.intOf]; omega
    · have hcv := conv_own hown
      have he := Lib.hid (show bs = enc l by have := hbs.out; rwa [List.take_of_length_le (by omega)] at this)
      go_wp2
      go_ret
      exact ⟨by rw [← he.out]; rfl, hbw⟩
end Go.Proofs.YtchgelfomnbpaaaDoor
namespace Go.Proofs.YtchgelfomnbpaaaDoor
open Go.RowKit
open Go.Lib

/-- A slice of the call's own that holds these ints. -/
def OwnI (w : World) (base : Nat) (v : Value) (zs : List Int) : Prop := w.ownsRow base 3 1 v zs.length (zs.map (Value.int .i64))
/-- One number more behind a list of the call's own. -/
theorem app1 {ops : Array Oper} {rest : List Oper} {o : Oper} {a : Act} {Q : Exit → Act → World → Prop} (hgd : o.guard = none) (s x : Operand)
    (ho : o.op = .call { callee := .builtin .append, args := #[s, x], argTypes := #[83, 83] }) (w w0 : World) (B base : Nat) (v : Value) (zs : List Int) (z : Int)
    (hs : a.eval s = v) (hown : OwnI w base v zs) (hx : a.eval x = .slice (some ⟨w.heap.size, 0, none⟩) 1 1) (hlen : zs.length ≤ 10000000) (hbase : base ≤ w.heap.size) (hB : B ≤ base) (hb : Below B w0 w)
    (h : ∀ v' w', OwnI w' base v' (zs ++ [z]) → Below B w0 w' → wpList Tryd.prog ops Q rest (a.put o.dst v') w') :
    wpList Tryd.prog ops Q (o :: rest) a (w.alloc (.cells #[.int .i64 z] 3)) := by
  obtain ⟨i0, hi, hz0, hz1, hz2⟩ := info_parts Tryd.info3
  refine wpList_append_own _ hgd s x 83 ho base 3 i0 (.int .i64 0) 1 8 Tryd.underlying83 hi hz0 hz1 hz2 rfl (by decide) v zs.length _ hs (World.ownsRow.alloc hown _) ⟨w.heap.size, 0, none⟩ 1 1 [.int .i64 z] hx rfl (c1_one _ _ _ _) (c2_one _ _) (by unfold maxLen; omega) (by omega) (by simp; omega) ?_
  intro v' w' hown' hgrow _
  have R := own_more hB hown hb (by omega) hown' hgrow
  exact h v' w' R.1 R.2

theorem allPt_filter {l : List Int} (f : Int → Bool) (h : AllPt l) : AllPt (l.filter f) := fun p hp => h p (List.mem_filter.1 hp).1

end Go.Proofs.YtchgelfomnbpaaaDoor
namespace Go.Proofs.YtchgelfomnbpaaaDoor
open Go.RowKit
open Go.Lib
/-- Every code point is kept. -/
def anyPt (_ : Int) : Bool := true
theorem rep1_any (r : Int) (w : World) : Calls Tryd.prog 84 #[.int .i32 r] w fun e w' => e = .returned (.bool (anyPt r)) ∧ w = w' := by
  go_enter Tryd.func84, Tryd.ntmps84
  go_wp2
  go_ret
  exact ⟨rfl, rfl⟩
/-- The points from place k on. -/
def ptsFrom (s : ByteArray) (k : Nat) : List Int := pts (s.data.toList.drop k)
theorem ptsFrom_step (s : ByteArray) (k : Nat) (h : k < s.size) : ptsFrom s k = ((Utf8.decode s k).1 : Int) :: ptsFrom s (k + (Utf8.decode s k).2) ∧ 1 ≤ (Utf8.decode s k).2 ∧ k + (Utf8.decode s k).2 ≤ s.size ∧ (Utf8.decode s k).1 ≤ 1114111 := by
  have hne : s.data.toList.drop k ≠ [] := by
    intro h
    have := congrArg List.length h
    simp at this
    omega
  have hstep := pts_cons (s.data.toList.drop k) hne
  have hle := decodeL_le (s.data.toList.drop k) hne
  have hwd := decodeL_width (s.data.toList.drop k)
  have hru := decodeL_rune (s.data.toList.drop k)
  rw [List.drop_drop] at hstep
  rw [List.length_drop] at hle
  rw [decodeL_drop] at hstep hle hwd hru
  refine ⟨hstep, hwd, ?_, hru⟩
  simp at hle
  omega
theorem ptsFrom_end (s : ByteArray) (k : Nat) (h : ¬ k < s.size) : ptsFrom s k = [] := by
  unfold ptsFrom
  rw [List.drop_of_length_le (by simp; omega)]
  rfl
theorem byteCells_enc (a : List Int) (p : Int) : byteCells (enc a) ++ runeCells p = byteCells (enc (a ++ [p])) := by
  rw [enc_append, byteCells_append, ← byteCells_encodeRune]
  simp [enc]

set_option maxRecDepth 100000 in
set_option maxHeartbeats 2000000 in
theorem keep_all (s : ByteArray) (w : World) (hs : s.size ≤ 2000000) :
    Calls Tryd.prog 83 #[.string s, .func (Fn.func 84) #[] #[]] w fun e w' => e = .returned (.string ⟨(enc ((pts s.data.toList).filter anyPt)).toArray⟩) ∧ Below w.heap.size w w' := by
  go_enter Tryd.func83, Tryd.ntmps83
  go_wp2
  go_loopw [] (fun wr => ∃ (k : Nat) (acc : List Int), k ≤ s.size ∧ Lib.IsBuilderF 61 5 w.heap.size w.heap.size (byteCells (enc acc)) wr ∧ wr.heap[w.heap.size + 1]? = some (.stringIter s k) ∧ Below w.heap.size w wr ∧ acc.length ≤ k ∧ Hid (acc ++ (ptsFrom s k).filter anyPt = (pts s.data.toList).filter anyPt))
    (fun wr => s.size - wr.iterPos (w.heap.size + 1))
  case atStart =>
    refine ⟨0, [], Nat.zero_le _, (Lib.IsBuilderF.of (Lib.fresh_isBuilder 61 5 w)).alloc _, ?_, ((Below.refl _ w).alloc (Nat.le_refl _) _).alloc (by simp) _, by simp, by simp [Hid, ptsFrom]⟩
    have := World.iter_heap (w.alloc (.cells #[.pointer none, .slice none 0 0] 61)) s 0
    simpa using this
  case round =>
    obtain ⟨k, acc, hk, hI, hit, hbw, hal, hac⟩ := hrel
    have hbsz : w.heap.size + 1 < wr.heap.size := (Array.getElem?_eq_some_iff.1 hit).1
    by_cases hlt : k < s.size
    · have hnx : ∀ ty, (Instr.next (.pointer (some ⟨w.heap.size + 1, 0, none⟩)) true ty).run Tryd.prog wr = _ := fun ty => Lib.run_next_any_at wr (w.heap.size + 1) s k ty hit hlt
      obtain ⟨hstep, hwd, hle, hru⟩ := ptsFrom_step s k hlt
      have hI2 := hI.iterAt hit (k + (Utf8.decode s k).2)
      have hit2 := Lib.iterAt_heap wr (w.heap.size + 1) s k (k + (Utf8.decode s k).2) hit
      have hbw2 := Lib.below_iterAt hbw (k := w.heap.size + 1) (by omega) s (k + (Utf8.decode s k).2)
      have hsz2 : w.heap.size ≤ (wr.iterAt (w.heap.size + 1) s (k + (Utf8.decode s k).2)).heap.size := by rw [Lib.iterAt_size]; omega
      have hm : s.size - (k + (Utf8.decode s k).2) < s.size - k := by omega
      have HIT0 := Lib.hid hit
      have hel := enc_length_le acc
      generalize Utf8.decode s k = d at *
      obtain ⟨p, n⟩ := d
      simp only at hwd hle hru hstep hnx hI2 hit2 hbw2 hsz2 hm
      generalize wr.iterAt (w.heap.size + 1) s (k + n) = wi at *
      have HIT := Lib.hid hit2
      clear hit2 hit hbw hI
      cases hin : anyPt (p : Int) with
      | true =>
        have H2 := Lib.hid (show (acc ++ [(p : Int)]) ++ (ptsFrom s (k + n)).filter anyPt = (pts s.data.toList).filter anyPt by rw [← hac.out, hstep, List.filter_cons, hin]; simp)
        clear hstep
        go_wp2_with (go_at_call 84; refine (rep1_any _ _).mono ?_; rintro e w' ⟨rfl, rfl⟩)
        refine (sbRune w.heap.size w.heap.size _ (p : Int) (by omega) (by omega) _ hI2 (by rw [Lib.byteCells_length]; omega) hsz2).mono ?_
        rintro e W1 ⟨rfl, h1, b1, k1⟩
        clear hin
        go_wp2
        go_roundw
        case rel =>
          refine ⟨k + n, acc ++ [(p : Int)], hle, ?_, k1.iter HIT.out (by omega), hbw2.trans b1, by simp; omega, H2⟩
          rw [← byteCells_enc]; exact Or.inr h1
        case measure => rw [iterPos_of (k1.iter HIT.out (by omega)), iterPos_of HIT0.out]; exact hm
      | false =>
        have H2 := Lib.hid (show acc ++ (ptsFrom s (k + n)).filter anyPt = (pts s.data.toList).filter anyPt by rw [← hac.out, hstep, List.filter_cons, hin]; simp)
        clear hstep
        go_wp2_with (go_at_call 84; refine (rep1_any _ _).mono ?_; rintro e w' ⟨rfl, rfl⟩)
        clear hin
        go_roundw
        case rel => exact ⟨k + n, acc, hle, hI2, HIT.out, hbw2, by omega, H2⟩
        case measure => rw [iterPos_of HIT.out, iterPos_of HIT0.out]; exact hm
    · have hnx : ∀ ty, (Instr.next (.pointer (some ⟨w.heap.size + 1, 0, none⟩)) true ty).run Tryd.prog wr = _ := fun ty => Lib.run_next_end_at wr (w.heap.size + 1) s k ty hit hlt
      have HE := Lib.hid (ptsFrom_end s k hlt)
      clear hit
      go_wp2_with fail
      refine (sbString w.heap.size w.heap.size (enc acc) _ hI (by omega)).mono ?_
      rintro e W1 ⟨rfl, _, b1, _⟩
      go_wp2
      go_ret
      have hq := hac.out
      rw [HE.out] at hq
      simp only [List.filter_nil, List.append_nil] at hq
      rw [← hq]
      exact ⟨rfl, hbw.trans b1⟩

theorem repair_any (s : ByteArray) (w : World) (hs : s.size ≤ 2000000) :
    Calls Tryd.prog 62 #[.string s] w fun e w' => e = .returned (.string ⟨(enc (pts s.data.toList)).toArray⟩) ∧ Below w.heap.size w w' := by
  have hc := keep_all s w hs
  rw [show (pts s.data.toList).filter anyPt = pts s.data.toList from List.filter_eq_self.2 fun _ _ => rfl] at hc
  go_enter Tryd.func62, Tryd.ntmps62
  go_wp2_with fail
  refine hc.mono ?_
  rintro e w1 ⟨rfl, hb⟩
  go_wp2
  go_ret
  exact ⟨rfl, hb⟩
end Go.Proofs.YtchgelfomnbpaaaDoor
namespace Go.Proofs.YtchgelfomnbpaaaDoor
open Go.RowKit
open Go.Lib

/-- What Make answers. -/
def MakeOut (l : List Int) (w : World) (e : Ending) (w' : World) : Prop :=
  (e = .returned (.tuple #[.string ⟨(if l.all isPt = true then enc l else []).toArray⟩, .int .i64 (if l.all isPt = true then 0 else 2)])) ∧ Below w.heap.size w w'
theorem MakeOut.good {l : List Int} {w w' : World} (h : l.all isPt = true) (hb : Below w.heap.size w w') : MakeOut l w (.returned (.tuple #[.string ⟨(enc l).toArray⟩, .int .i64 0])) w' := by
  unfold MakeOut; rw [if_pos h, if_pos h]; exact ⟨rfl, hb⟩
theorem MakeOut.bad {l : List Int} {w w' : World} (h : l.all isPt = false) (hb : Below w.heap.size w w') : MakeOut l w (.returned (.tuple #[.string ⟨#[]⟩, .int .i64 2])) w' := by
  unfold MakeOut; rw [h]; exact ⟨rfl, hb⟩
end Go.Proofs.YtchgelfomnbpaaaDoor
namespace Go.Proofs.YtchgelfomnbpaaaDoor
open Go.RowKit
open Go.Lib

theorem size_list (s : ByteArray) : s.size = s.data.toList.length := by simp
theorem getD_at (s : ByteArray) (k : Nat) (h : k < s.size) : s.data.toList[k]'(by simpa using h) = s[k] := rfl
theorem take_snoc (s : ByteArray) (k : Nat) (h : k < s.size) : s.data.toList.take (k + 1) = s.data.toList.take k ++ [s[k]] := by
  rw [List.take_succ_eq_append_getElem (by simpa using h)]; rfl
theorem valD_bd (base : Int) (hb : 0 ≤ base) (hb2 : base ≤ 16) (l : List UInt8) (hl : l.length ≤ 7) (hall : l.all (isD base) = true) : 0 ≤ valD base l ∧ valD base l ≤ 268435455 := by
  have : ∀ (l : List UInt8) (n m : Int), 0 ≤ n → n ≤ m → (∀ c ∈ l, isD base c = true) → 0 ≤ l.foldl (fun n c => n * base + digN c) n ∧ l.foldl (fun n c => n * base + digN c) n ≤ (m + 1) * 16 ^ l.length - 1 := by
    intro l
    induction l with
    | nil => intro n m h0 h1 _; simp; omega
    | cons c l ih =>
      intro n m h0 h1 hc
      have hd := hc c List.mem_cons_self
      simp [isD] at hd
      have hp := Int.mul_nonneg h0 hb
      have hq : n * base ≤ m * 16 := Int.mul_le_mul h1 hb2 hb (by omega)
      have := ih (n * base + digN c) (m * 16 + 15) (by omega) (by omega) (fun d hd => hc d (List.mem_cons_of_mem _ hd))
      rw [List.foldl_cons, List.length_cons, Int.pow_succ]
      refine ⟨this.1, Int.le_trans this.2 ?_⟩
      have e : (m * 16 + 15 + 1) * (16 : Int) ^ l.length = (m + 1) * (16 ^ l.length * 16) := by
        rw [show m * 16 + 15 + 1 = (m + 1) * 16 by omega, Int.mul_assoc, Int.mul_comm 16]
      omega
  have h := this l 0 0 (by omega) (by omega) (List.all_eq_true.1 hall)
  refine ⟨h.1, Int.le_trans h.2 ?_⟩
  have hp : (16 : Int) ^ l.length ≤ 16 ^ 7 := by
    have := Nat.pow_le_pow_right (n := 16) (by omega) hl
    exact_mod_cast this
  omega

set_option maxRecDepth 100000 in
theorem digit_any (c : UInt8) (w : World) : Calls Tryd.prog 112 #[.int .u8 c.toNat] w fun e w' => e = .returned (.int .i64 (digN c)) ∧ w = w' := by
  have hc : c.toNat < 256 := UInt8.toNat_lt c
  by_cases a : 48 ≤ c.toNat ∧ c.toNat ≤ 57
  · obtain ⟨a1, a2⟩ := a
    go_enter Tryd.func112, Tryd.ntmps112
    go_wp2
    go_ret
    exact ⟨ret_int (by unfold digN; rw [if_pos ⟨a1, a2⟩]), rfl⟩
  by_cases b : 97 ≤ c.toNat ∧ c.toNat ≤ 102
  · obtain ⟨b1, b2⟩ := b
    go_enter Tryd.func112, Tryd.ntmps112
    go_wp2
    go_ret
    exact ⟨ret_int (by unfold digN; rw [if_neg a, if_pos ⟨b1, b2⟩]; omega), rfl⟩
  by_cases d : 65 ≤ c.toNat ∧ c.toNat ≤ 70
  · obtain ⟨d1, d2⟩ := d
    go_enter Tryd.func112, Tryd.ntmps112
    go_wp2
    go_ret
    exact ⟨ret_int (by unfold digN; rw [if_neg a, if_neg b, if_pos ⟨d1, d2⟩]; omega), rfl⟩
  · have HV := Lib.hid (show digN c = -1 by unfold digN; rw [if_neg a, if_neg b, if_neg d])
    go_enter Tryd.func112, Tryd.ntmps112
    go_wp2
    all_goals first | (exfalso; omega) | (go_ret; exact ⟨ret_int (by rw [HV.out]), rfl⟩)
end Go.Proofs.YtchgelfomnbpaaaDoor
namespace Go.Proofs.YtchgelfomnbpaaaDoor
open Go.RowKit
open Go.Lib

theorem empty_of (s : ByteArray) (h : s.size = 0) : s = ⟨#[]⟩ := by
  apply ByteArray.ext
  exact Array.eq_empty_of_size_eq_zero h
theorem list_ne (s : ByteArray) (h : 0 < s.size) : s.toList ≠ [] := by
  rw [Lib.toList_data]
  intro e
  have := congrArg List.length e
  rw [← size_list s, List.length_nil] at this
  omega
theorem numP_bad {base : Int} {m : Nat} {l : List UInt8} (c : UInt8) (hc : c ∈ l) (h : isD base c = false) : numP base m l = -1 := by
  apply numP_neg
  refine .inr (.inr ?_)
  rw [Bool.eq_false_iff]
  intro ha
  rw [List.all_eq_true.1 ha c hc] at h
  cases h
theorem numP_good {base : Int} {m : Nat} {l : List UInt8} (h0 : l ≠ []) (h1 : l.length ≤ m) (h2 : l.all (isD base) = true) : numP base m l = valD base l := by
  unfold numP
  rw [if_neg]
  rintro (h | h | h)
  · exact h0 h
  · omega
  · rw [h2] at h; cases h

set_option maxRecDepth 100000 in
theorem number16_any (s : ByteArray) (m : Nat) (w : World) (hm : m ≤ 7) : Calls Tryd.prog 111 #[.string s, .int .i64 16, .int .i64 m] w fun e w' => e = .returned (.int .i64 (numP 16 m s.data.toList)) ∧ w = w' := by
  by_cases h0 : s.size = 0
  · obtain rfl := empty_of s h0
    clear h0
    go_enter Tryd.func111, Tryd.ntmps111
    go_wp2
    go_ret
    exact ⟨ret_int (by rw [numP_neg _ _ _ (.inl rfl)]), rfl⟩
  have hp : 0 < s.size := by omega
  clear h0
  have hne := list_ne s hp
  have hne2 : (s.toList == ([] : List UInt8)) = false := by simpa using hne
  have HL := Lib.hid (size_list s)
  by_cases h1 : m < s.size
  · have HV := Lib.hid (numP_neg 16 m s.data.toList (.inr (.inl (by rw [← HL.out]; exact h1))))
    go_enter Tryd.func111, Tryd.ntmps111
    go_wp2
    all_goals first | (exfalso; omega) | (go_ret; exact ⟨ret_int (by rw [HV.out]), rfl⟩)
  · have h2 : s.size ≤ m := by omega
    clear h1
    have hdm : decide (m < s.size) = false := by simpa using h2
    go_enter Tryd.func111, Tryd.ntmps111
    go_wp2
    go_loop [7, 20] (fun n i => ∃ k : Nat, k ≤ s.size ∧ i = .int .i64 k ∧ n = .int .i64 (valD 16 (s.data.toList.take k)) ∧ Hid ((s.data.toList.take k).all (isD 16) = true)) (fun _ i => s.size - (RowKit.intOf i).toNat)
    case atStart => exact ⟨0, Nat.zero_le _, rfl, rfl, by simp [Hid]⟩
    case round =>
      obtain ⟨k, hk, rfl, rfl, hall⟩ := hrel
      have hbd := valD_bd 16 (by omega) (by omega) (s.data.toList.take k) (by rw [List.length_take]; omega) hall.out
      by_cases hlt : k < s.size
      · have HT := Lib.hid (take_snoc s k hlt)
        have HS := Lib.hid (valD_snoc 16 (s.data.toList.take k) s[k])
        have hmem := Lib.hid (show s[k] ∈ s.data.toList from List.getElem_mem _)
        have hdb := digN_bd s[k]
        by_cases hd : 0 ≤ digN s[k] ∧ digN s[k] < 16
        · obtain ⟨d0, d1⟩ := hd
          have HD := Lib.hid (show isD 16 s[k] = true by simp [isD, d0, d1])
          go_wp2_with (go_at_call 112; refine (digit_any _ _).mono ?_; rintro e w' ⟨rfl, rfl⟩)
          go_round
          case rel => exact ⟨k + 1, by omega, by go_num, by rw [HT.out, HS.out], by show _ = true; rw [HT.out, List.all_append, hall.out]; simp [HD.out]⟩
          case measure => simp [RowKit.intOf]; omega
        · have HV := Lib.hid (show numP 16 m s.data.toList = -1 from numP_bad _ hmem.out (by rw [Bool.eq_false_iff]; intro h; simp [isD] at h; exact hd h))
          have hd2 : digN s[k] < 0 ∨ 16 ≤ digN s[k] := by omega
          clear hd
          rcases hd2 with d0 | d0
          all_goals
            go_wp2_with (go_at_call 112; refine (digit_any _ _).mono ?_; rintro e w' ⟨rfl, rfl⟩)
            all_goals first | (exfalso; omega) | (go_ret; exact ⟨ret_int (by rw [HV.out]), rfl⟩)
      · have HE := Lib.hid (show s.data.toList.take k = s.data.toList from List.take_of_length_le (by simp; omega))
        go_wp2
        go_ret
        refine ⟨ret_int ?_, rfl⟩
        have ha := hall.out
        rw [HE.out] at ha ⊢
        exact (numP_good (by rw [← Lib.toList_data]; exact hne) (by rw [← HL.out]; omega) ha).symm

set_option maxRecDepth 100000 in
theorem number10_any (s : ByteArray) (m : Nat) (w : World) (hm : m ≤ 7) : Calls Tryd.prog 111 #[.string s, .int .i64 10, .int .i64 m] w fun e w' => e = .returned (.int .i64 (numP 10 m s.data.toList)) ∧ w = w' := by
  by_cases h0 : s.size = 0
  · obtain rfl := empty_of s h0
    clear h0
    go_enter Tryd.func111, Tryd.ntmps111
    go_wp2
    go_ret
    exact ⟨ret_int (by rw [numP_neg _ _ _ (.inl rfl)]), rfl⟩
  have hp : 0 < s.size := by omega
  clear h0
  have hne := list_ne s hp
  have hne2 : (s.toList == ([] : List UInt8)) = false := by simpa using hne
  have HL := Lib.hid (size_list s)
  by_cases h1 : m < s.size
  · have HV := Lib.hid (numP_neg 10 m s.data.toList (.inr (.inl (by rw [← HL.out]; exact h1))))
    go_enter Tryd.func111, Tryd.ntmps111
    go_wp2
    all_goals first | (exfalso; omega) | (go_ret; exact ⟨ret_int (by rw [HV.out]), rfl⟩)
  · have h2 : s.size ≤ m := by omega
    clear h1
    have hdm : decide (m < s.size) = false := by simpa using h2
    go_enter Tryd.func111, Tryd.ntmps111
    go_wp2
    go_loop [7, 20] (fun n i => ∃ k : Nat, k ≤ s.size ∧ i = .int .i64 k ∧ n = .int .i64 (valD 10 (s.data.toList.take k)) ∧ Hid ((s.data.toList.take k).all (isD 10) = true)) (fun _ i => s.size - (RowKit.intOf i).toNat)
    case atStart => exact ⟨0, Nat.zero_le _, rfl, rfl, by simp [Hid]⟩
    case round =>
      obtain ⟨k, hk, rfl, rfl, hall⟩ := hrel
      have hbd := valD_bd 10 (by omega) (by omega) (s.data.toList.take k) (by rw [List.length_take]; omega) hall.out
      by_cases hlt : k < s.size
      · have HT := Lib.hid (take_snoc s k hlt)
        have HS := Lib.hid (valD_snoc 10 (s.data.toList.take k) s[k])
        have hmem := Lib.hid (show s[k] ∈ s.data.toList from List.getElem_mem _)
        have hdb := digN_bd s[k]
        by_cases hd : 0 ≤ digN s[k] ∧ digN s[k] < 10
        · obtain ⟨d0, d1⟩ := hd
          have HD := Lib.hid (show isD 10 s[k] = true by simp [isD, d0, d1])
          go_wp2_with (go_at_call 112; refine (digit_any _ _).mono ?_; rintro e w' ⟨rfl, rfl⟩)
          go_round
          case rel => exact ⟨k + 1, by omega, by go_num, by rw [HT.out, HS.out], by show _ = true; rw [HT.out, List.all_append, hall.out]; simp [HD.out]⟩
          case measure => simp [RowKit.intOf]; omega
        · have HV := Lib.hid (show numP 10 m s.data.toList = -1 from numP_bad _ hmem.out (by rw [Bool.eq_false_iff]; intro h; simp [isD] at h; exact hd h))
          have hd2 : digN s[k] < 0 ∨ 10 ≤ digN s[k] := by omega
          clear hd
          rcases hd2 with d0 | d0
          all_goals
            go_wp2_with (go_at_call 112; refine (digit_any _ _).mono ?_; rintro e w' ⟨rfl, rfl⟩)
            all_goals first | (exfalso; omega) | (go_ret; exact ⟨ret_int (by rw [HV.out]), rfl⟩)
      · have HE := Lib.hid (show s.data.toList.take k = s.data.toList from List.take_of_length_le (by simp; omega))
        go_wp2
        go_ret
        refine ⟨ret_int ?_, rfl⟩
        have ha := hall.out
        rw [HE.out] at ha ⊢
        exact (numP_good (by rw [← Lib.toList_data]; exact hne) (by rw [← HL.out]; omega) ha).symm

def hiB (n : Int) : Bool := decide (55296 ≤ n ∧ n ≤ 56319)
set_option maxRecDepth 100000 in
theorem isHigh_any (n : Int) (w : World) : Calls Tryd.prog 110 #[.int .i64 n] w fun e w' => e = .returned (.bool (hiB n)) ∧ w = w' := by
  by_cases h1 : 55296 ≤ n <;> by_cases h2 : n ≤ 56319
  all_goals
    go_enter Tryd.func110, Tryd.ntmps110
    go_wp2
    go_ret
    refine ⟨ret_bool ?_, rfl⟩
    rw [Bool.eq_iff_iff]; simp only [hiB, decide_eq_true_eq, true_iff, false_iff, Bool.false_eq_true]; omega
def loB (n : Int) : Bool := decide (56320 ≤ n ∧ n ≤ 57343)
set_option maxRecDepth 100000 in
theorem isLow_any (n : Int) (w : World) : Calls Tryd.prog 109 #[.int .i64 n] w fun e w' => e = .returned (.bool (loB n)) ∧ w = w' := by
  by_cases h1 : 56320 ≤ n <;> by_cases h2 : n ≤ 57343
  all_goals
    go_enter Tryd.func109, Tryd.ntmps109
    go_wp2
    go_ret
    refine ⟨ret_bool ?_, rfl⟩
    rw [Bool.eq_iff_iff]; simp only [loB, decide_eq_true_eq, true_iff, false_iff, Bool.false_eq_true]; omega
end Go.Proofs.YtchgelfomnbpaaaDoor
namespace Go.Proofs.YtchgelfomnbpaaaDoor
open Go.RowKit
open Go.Lib

theorem getE? (s : ByteArray) (k : Nat) (h : k < s.size) : s.data.toList[k]? = some s[k] := by
  rw [List.getElem?_eq_getElem (by simpa using h)]; rfl
theorem u8_ne (c d : UInt8) (h : c ≠ d) : c.toNat ≠ d.toNat := fun e => h (UInt8.toNat_inj.1 e)
set_option maxRecDepth 100000 in
theorem unit_any (s : ByteArray) (w : World) (hs : s.size ≤ 2000000) : Calls Tryd.prog 108 #[.string s] w fun e w' => e = .returned (.int .i64 (unitQ s.data.toList)) ∧ w = w' := by
  have HL := Lib.hid (size_list s)
  by_cases h6 : s.size < 6
  · have HV := Lib.hid (show unitQ s.data.toList = -1 by unfold unitQ; rw [if_pos (.inl (by rw [← HL.out]; exact h6))])
    go_enter Tryd.func108, Tryd.ntmps108
    go_wp2
    all_goals first | (exfalso; omega) | (go_ret; exact ⟨ret_int (by rw [HV.out]), rfl⟩)
  have h7 : 6 ≤ s.size := by omega
  have k0 : 0 < s.size := by omega
  have k1 : 1 < s.size := by omega
  clear h6
  have g0 := Lib.hid (getE? s 0 k0)
  have g1 := Lib.hid (getE? s 1 k1)
  by_cases a : s[0] = 92
  · by_cases b : s[1] = 117
    · have HV := Lib.hid (show unitQ s.data.toList = numP 16 4 ((s.data.toList.drop 2).take 4) by
        unfold unitQ; rw [if_neg]; rw [g0.out, g1.out, a, b, ← HL.out]; simp; omega)
      have HX := Lib.hid (show (s.extract 2 6).data.toList = (s.data.toList.drop 2).take 4 by simp [ByteArray.data_extract])
      have a1 : ((s[0].toNat : Int) != 92) = false := by rw [a]; decide
      have b1 : ((s[1].toNat : Int) != 117) = false := by rw [b]; decide
      clear a b
      go_enter Tryd.func108, Tryd.ntmps108
      go_wp2_with (go_at_call 111; refine (number16_any _ 4 _ (by omega)).mono ?_; rintro e w' ⟨rfl, rfl⟩)
      go_ret
      exact ⟨ret_int (by rw [HV.out, ← HX.out]), rfl⟩
    · have HV := Lib.hid (show unitQ s.data.toList = -1 by unfold unitQ; rw [if_pos (.inr (.inr (by rw [g1.out]; simpa using b)))])
      have b2 := u8_ne _ _ b
      have a1 : ((s[0].toNat : Int) != 92) = false := by rw [a]; decide
      have b1 : ((s[1].toNat : Int) != 117) = true := by rw [bne_iff_ne]; intro e; exact b2 (by show _ = 117; omega)
      clear a b b2
      go_enter Tryd.func108, Tryd.ntmps108
      go_wp2
      go_ret
      exact ⟨ret_int (by rw [HV.out]), rfl⟩
  · have HV := Lib.hid (show unitQ s.data.toList = -1 by unfold unitQ; rw [if_pos (.inr (.inl (by rw [g0.out]; simpa using a)))])
    have a2 := u8_ne _ _ a
    have a1 : ((s[0].toNat : Int) != 92) = true := by rw [bne_iff_ne]; intro e; exact a2 (by show _ = 92; omega)
    clear a a2
    go_enter Tryd.func108, Tryd.ntmps108
    go_wp2
    go_ret
    exact ⟨ret_int (by rw [HV.out]), rfl⟩

/-- What is answered of a code point and its width, 0 and 0 where there is none. -/
def p0 (e : Int × Nat) : Int := if e.1 < 0 then 0 else e.1
def n0 (e : Int × Nat) : Nat := if e.1 < 0 then 0 else e.2
def unitsQ (u v : Int) : Int × Nat := if 55296 ≤ u ∧ u ≤ 56319 then (if 56320 ≤ v ∧ v ≤ 57343 then (65536 + (u - 55296) * 1024 + (v - 56320), 12) else (-1, 0)) else if isPt u = true then (u, 6) else (-1, 0)
/-- Two results. -/
def Two (p : Int) (n : Nat) (w : World) (e : Ending) (w' : World) : Prop := e = .returned (.tuple #[.int .i32 p, .int .i64 n]) ∧ w = w'
theorem Two.mk {p q : Int} {n m : Nat} {w : World} (h : p = q) (g : n = m) : Two q m w (.returned (.tuple #[.int .i32 p, .int .i64 n])) w := by subst h; subst g; exact ⟨rfl, rfl⟩
set_option maxRecDepth 100000 in
theorem units_any (s : ByteArray) (w : World) (hs : s.size ≤ 2000000) : Calls Tryd.prog 103 #[.string s] w (Two (p0 (unitsQ (unitQ s.data.toList) (unitQ (s.data.toList.drop 6)))) (n0 (unitsQ (unitQ s.data.toList) (unitQ (s.data.toList.drop 6)))) w) := by
  have hl := unitQ_len s.data.toList
  rw [← size_list s] at hl
  have hl2 : 0 ≤ unitQ s.data.toList → 6 ≤ s.size := fun h => (hl h).1
  clear hl
  have hb := unitQ_bd s.data.toList
  have hc := unit_any s w hs
  have hd : unitQ (s.extract 6 s.size).data.toList = unitQ (s.data.toList.drop 6) := by rw [drop_extract]
  have hc2 := unit_any (s.extract 6 s.size) w (by simp; omega)
  have hb2 := unitQ_bd (s.data.toList.drop 6)
  rw [hd] at hc2
  clear hd
  generalize unitQ (s.data.toList.drop 6) = v at *
  generalize unitQ s.data.toList = u at *
  by_cases h0 : u < 0
  · have HV := Lib.hid (show unitsQ u v = (-1, 0) by unfold unitsQ; rw [if_neg (by omega), if_neg (by rw [isPt_iff]; omega)])
    clear hl2
    go_enter Tryd.func103, Tryd.ntmps103
    go_wp2_with fail
    refine hc.mono ?_
    clear hc
    rintro e w' ⟨rfl, rfl⟩
    go_wp2
    go_ret2
    exact Two.mk (by rw [HV.out]; rfl) (by rw [HV.out]; rfl)
  have h1 : 0 ≤ u := by omega
  have h6 := hl2 h1
  clear hl2 h0
  cases hlo : loB u with
  | true =>
    have hq : 56320 ≤ u ∧ u ≤ 57343 := by simpa [loB] using hlo
    have HV := Lib.hid (show unitsQ u v = (-1, 0) by unfold unitsQ; rw [if_neg (by omega), if_neg (by rw [isPt_iff]; omega)])
    go_enter Tryd.func103, Tryd.ntmps103
    go_wp2_with fail
    refine hc.mono ?_
    clear hc
    rintro e w' ⟨rfl, rfl⟩
    go_wp2_with (go_at_call 109; refine (isLow_any _ _).mono ?_; rintro e w' ⟨rfl, rfl⟩)
    go_ret2
    exact Two.mk (by rw [HV.out]; rfl) (by rw [HV.out]; rfl)
  | false =>
    have hq : ¬ (56320 ≤ u ∧ u ≤ 57343) := by simpa [loB] using hlo
    cases hhi : hiB u with
    | false =>
      have hr : ¬ (55296 ≤ u ∧ u ≤ 56319) := by simpa [hiB] using hhi
      have HV := Lib.hid (show unitsQ u v = (u, 6) by unfold unitsQ; rw [if_neg (by omega), if_pos (by rw [isPt_iff]; omega)])
      have HP := Lib.hid (show p0 (u, 6) = u by unfold p0; rw [if_neg]; simp only; omega)
      have HN := Lib.hid (show n0 (u, 6) = 6 by unfold n0; rw [if_neg]; simp only; omega)
      clear hr hq
      go_enter Tryd.func103, Tryd.ntmps103
      go_wp2_with fail
      refine hc.mono ?_
      clear hc
      rintro e w' ⟨rfl, rfl⟩
      go_wp2_with (first | (go_at_call 109; refine (isLow_any _ _).mono ?_; rintro e w' ⟨rfl, rfl⟩) | (go_at_call 110; refine (isHigh_any _ _).mono ?_; rintro e w' ⟨rfl, rfl⟩))
      go_ret2
      exact Two.mk (by rw [HV.out, HP.out]) (by rw [HV.out, HN.out])
    | true =>
      have hr : 55296 ≤ u ∧ u ≤ 56319 := by simpa [hiB] using hhi
      obtain ⟨r1, r2⟩ := hr
      clear hq
      cases hlv : loB v with
      | false =>
        have hq : ¬ (56320 ≤ v ∧ v ≤ 57343) := by simpa [loB] using hlv
        have HV := Lib.hid (show unitsQ u v = (-1, 0) by unfold unitsQ; rw [if_pos (by omega), if_neg hq])
        clear hq
        go_enter Tryd.func103, Tryd.ntmps103
        go_wp2_with fail
        refine hc.mono ?_
        clear hc
        rintro e w' ⟨rfl, rfl⟩
        go_wp2_with (first | (go_at_call 109; refine (isLow_any _ _).mono ?_; rintro e w' ⟨rfl, rfl⟩) | (go_at_call 110; refine (isHigh_any _ _).mono ?_; rintro e w' ⟨rfl, rfl⟩))
        refine hc2.mono ?_
        clear hc2
        rintro e w' ⟨rfl, rfl⟩
        go_wp2_with (go_at_call 109; refine (isLow_any _ _).mono ?_; rintro e w' ⟨rfl, rfl⟩)
        go_ret2
        exact Two.mk (by rw [HV.out]; rfl) (by rw [HV.out]; rfl)
      | true =>
        have hq : 56320 ≤ v ∧ v ≤ 57343 := by simpa [loB] using hlv
        have HV := Lib.hid (show unitsQ u v = (65536 + (u - 55296) * 1024 + (v - 56320), 12) by unfold unitsQ; rw [if_pos (by omega), if_pos hq])
        have HP := Lib.hid (show p0 (65536 + (u - 55296) * 1024 + (v - 56320), 12) = 65536 + (u - 55296) * 1024 + (v - 56320) by unfold p0; rw [if_neg]; simp only; omega)
        have HN := Lib.hid (show n0 (65536 + (u - 55296) * 1024 + (v - 56320), 12) = 12 by unfold n0; rw [if_neg]; simp only; omega)
        obtain ⟨q1, q2⟩ := hq
        go_enter Tryd.func103, Tryd.ntmps103
        go_wp2_with fail
        refine hc.mono ?_
        clear hc
        rintro e w' ⟨rfl, rfl⟩
        go_wp2_with (first | (go_at_call 109; refine (isLow_any _ _).mono ?_; rintro e w' ⟨rfl, rfl⟩) | (go_at_call 110; refine (isHigh_any _ _).mono ?_; rintro e w' ⟨rfl, rfl⟩))
        refine hc2.mono ?_
        clear hc2
        rintro e w' ⟨rfl, rfl⟩
        go_wp2_with (go_at_call 109; refine (isLow_any _ _).mono ?_; rintro e w' ⟨rfl, rfl⟩)
        go_ret2
        exact Two.mk (by rw [HV.out, HP.out]) (by rw [HV.out, HN.out])
end Go.Proofs.YtchgelfomnbpaaaDoor
namespace Go.Proofs.YtchgelfomnbpaaaDoor
open Go.RowKit
open Go.Lib

theorem escQ_two (l : List UInt8) (c : UInt8) (h : l[1]? = some c) : escQ l = if c = 34 then (34, 2) else if c = 92 then (92, 2) else if c = 47 then (47, 2) else if c = 98 then (8, 2) else if c = 102 then (12, 2) else if c = 110 then (10, 2) else if c = 114 then (13, 2) else if c = 116 then (9, 2) else unitsQ (unitQ l) (unitQ (l.drop 6)) := by
  unfold escQ; rw [h]; rfl
theorem escQ_u (l : List UInt8) (c : UInt8) (h : l[1]? = some c) (h1 : c ≠ 34) (h2 : c ≠ 92) (h3 : c ≠ 47) (h4 : c ≠ 98) (h5 : c ≠ 102) (h6 : c ≠ 110) (h7 : c ≠ 114) (h8 : c ≠ 116) : escQ l = unitsQ (unitQ l) (unitQ (l.drop 6)) := by
  rw [escQ_two l c h, if_neg h1, if_neg h2, if_neg h3, if_neg h4, if_neg h5, if_neg h6, if_neg h7, if_neg h8]
theorem beqF (c d : UInt8) (h : c ≠ d) : ((c.toNat : Int) == (d.toNat : Int)) = false := by
  have := u8_ne c d h
  rw [beq_eq_false_iff_ne]
  omega
set_option maxRecDepth 100000 in
theorem escaped_any (s : ByteArray) (w : World) (hs : s.size ≤ 2000000) : Calls Tryd.prog 98 #[.string s] w (Two (p0 (escQ s.data.toList)) (n0 (escQ s.data.toList)) w) := by
  by_cases h2 : s.size < 2
  · have HV := Lib.hid (show escQ s.data.toList = (-1, 0) by
      unfold escQ
      rw [List.getElem?_eq_none (by rw [← size_list]; omega)])
    go_enter Tryd.func98, Tryd.ntmps98
    go_wp2
    go_ret2
    exact Two.mk (by rw [HV.out]; rfl) (by rw [HV.out]; rfl)
  have k1 : 1 < s.size := by omega
  clear h2
  have g1 := Lib.hid (getE? s 1 k1)
  have HQ := Lib.hid (escQ_two s.data.toList s[1] g1.out)
  have hc := units_any s w hs
  by_cases a1 : s[1] = 34
  · have HV := Lib.hid (show escQ s.data.toList = (34, 2) by rw [HQ.out, a1]; rfl)
    have b : s[1].toNat = 34 := by rw [a1]; decide
    clear a1
    go_enter Tryd.func98, Tryd.ntmps98
    go_wp2
    go_ret2
    exact Two.mk (by rw [HV.out]; rfl) (by rw [HV.out]; rfl)
  by_cases a2 : s[1] = 92
  · have HV := Lib.hid (show escQ s.data.toList = (92, 2) by rw [HQ.out, a2]; rfl)
    have b : s[1].toNat = 92 := by rw [a2]; decide
    clear a1 a2
    go_enter Tryd.func98, Tryd.ntmps98
    go_wp2
    go_ret2
    exact Two.mk (by rw [HV.out]; rfl) (by rw [HV.out]; rfl)
  by_cases a3 : s[1] = 47
  · have HV := Lib.hid (show escQ s.data.toList = (47, 2) by rw [HQ.out, a3]; rfl)
    have b : s[1].toNat = 47 := by rw [a3]; decide
    clear a1 a2 a3
    go_enter Tryd.func98, Tryd.ntmps98
    go_wp2
    go_ret2
    exact Two.mk (by rw [HV.out]; rfl) (by rw [HV.out]; rfl)
  by_cases a4 : s[1] = 98
  · have HV := Lib.hid (show escQ s.data.toList = (8, 2) by rw [HQ.out, a4]; rfl)
    have b : s[1].toNat = 98 := by rw [a4]; decide
    clear a1 a2 a3 a4
    go_enter Tryd.func98, Tryd.ntmps98
    go_wp2
    go_ret2
    exact Two.mk (by rw [HV.out]; rfl) (by rw [HV.out]; rfl)
  by_cases a5 : s[1] = 102
  · have HV := Lib.hid (show escQ s.data.toList = (12, 2) by rw [HQ.out, a5]; rfl)
    have b : s[1].toNat = 102 := by rw [a5]; decide
    clear a1 a2 a3 a4 a5
    go_enter Tryd.func98, Tryd.ntmps98
    go_wp2
    go_ret2
    exact Two.mk (by rw [HV.out]; rfl) (by rw [HV.out]; rfl)
  by_cases a6 : s[1] = 110
  · have HV := Lib.hid (show escQ s.data.toList = (10, 2) by rw [HQ.out, a6]; rfl)
    have b : s[1].toNat = 110 := by rw [a6]; decide
    clear a1 a2 a3 a4 a5 a6
    go_enter Tryd.func98, Tryd.ntmps98
    go_wp2
    go_ret2
    exact Two.mk (by rw [HV.out]; rfl) (by rw [HV.out]; rfl)
  by_cases a7 : s[1] = 114
  · have HV := Lib.hid (show escQ s.data.toList = (13, 2) by rw [HQ.out, a7]; rfl)
    have b : s[1].toNat = 114 := by rw [a7]; decide
    clear a1 a2 a3 a4 a5 a6 a7
    go_enter Tryd.func98, Tryd.ntmps98
    go_wp2
    go_ret2
    exact Two.mk (by rw [HV.out]; rfl) (by rw [HV.out]; rfl)
  by_cases a8 : s[1] = 116
  · have HV := Lib.hid (show escQ s.data.toList = (9, 2) by rw [HQ.out, a8]; rfl)
    have b : s[1].toNat = 116 := by rw [a8]; decide
    clear a1 a2 a3 a4 a5 a6 a7 a8
    go_enter Tryd.func98, Tryd.ntmps98
    go_wp2
    go_ret2
    exact Two.mk (by rw [HV.out]; rfl) (by rw [HV.out]; rfl)
  have HV := Lib.hid (escQ_u s.data.toList s[1] g1.out a1 a2 a3 a4 a5 a6 a7 a8)
  have b1 : ((s[1].toNat : Int) == 34) = false := beqF _ 34 a1
  have b2 : ((s[1].toNat : Int) == 92) = false := beqF _ 92 a2
  have b3 : ((s[1].toNat : Int) == 47) = false := beqF _ 47 a3
  have b4 : ((s[1].toNat : Int) == 98) = false := beqF _ 98 a4
  have b5 : ((s[1].toNat : Int) == 102) = false := beqF _ 102 a5
  have b6 : ((s[1].toNat : Int) == 110) = false := beqF _ 110 a6
  have b7 : ((s[1].toNat : Int) == 114) = false := beqF _ 114 a7
  have b8 : ((s[1].toNat : Int) == 116) = false := beqF _ 116 a8
  clear a1 a2 a3 a4 a5 a6 a7 a8
  generalize unitsQ (unitQ s.data.toList) (unitQ (s.data.toList.drop 6)) = q at *
  go_enter Tryd.func98, Tryd.ntmps98
  go_wp2_with fail
  refine hc.mono ?_
  clear hc
  rintro e w' ⟨rfl, rfl⟩
  go_wp2
  go_ret2
  exact Two.mk (by rw [HV.out]) (by rw [HV.out])

/-- In quotes? -/
def quoted (l : List UInt8) : Bool := decide (2 ≤ l.length ∧ l[0]? = some 34 ∧ l[l.length - 1]? = some 34)
set_option maxRecDepth 100000 in
theorem isQuoted_any (s : ByteArray) (w : World) (hs : s.size ≤ 2000000) : Calls Tryd.prog 88 #[.string s] w fun e w' => e = .returned (.bool (quoted s.data.toList)) ∧ w = w' := by
  have HL := Lib.hid (size_list s)
  by_cases h2 : s.size < 2
  · have HV := Lib.hid (show quoted s.data.toList = false by unfold quoted; rw [decide_eq_false_iff_not, ← HL.out]; omega)
    go_enter Tryd.func88, Tryd.ntmps88
    go_wp2
    go_ret
    exact ⟨ret_bool (by rw [HV.out]), rfl⟩
  have k1 : 2 ≤ s.size := by omega
  clear h2
  have k0 : 0 < s.size := by omega
  have g0 := Lib.hid (getE? s 0 k0)
  by_cases a : s[0] = 34
  · obtain ⟨n, hn⟩ : ∃ n, s.size = n + 1 := ⟨s.size - 1, by omega⟩
    have kn : n < s.size := by omega
    have gn := Lib.hid (getE? s n kn)
    have HV0 := Lib.hid (show quoted s.data.toList = decide (s[n] = 34) by
      unfold quoted
      rw [← HL.out, hn, Nat.add_sub_cancel, gn.out, g0.out, a]
      rw [Bool.eq_iff_iff]
      simp
      omega)
    have b : ((s[0].toNat : Int) == 34) = true := by rw [a]; decide
    have hix : ((s.size : Nat) : Int) - 1 = (n : Nat) := by omega
    clear a
    by_cases c : s[n] = 34
    · have HV := Lib.hid (show quoted s.data.toList = true by rw [HV0.out, c]; rfl)
      have d : ((s[n].toNat : Int) == 34) = true := by rw [c]; decide
      clear c
      have Hn := Lib.hid hn
      clear hn
      go_enter Tryd.func88, Tryd.ntmps88
      go_wp2
      go_ret
      exact ⟨ret_bool (by rw [HV.out]), rfl⟩
    · have HV := Lib.hid (show quoted s.data.toList = false by rw [HV0.out, decide_eq_false_iff_not]; exact c)
      have d : ((s[n].toNat : Int) == 34) = false := beqF _ 34 c
      clear c
      have Hn := Lib.hid hn
      clear hn
      go_enter Tryd.func88, Tryd.ntmps88
      go_wp2
      go_ret
      exact ⟨ret_bool (by rw [HV.out]), rfl⟩
  · have HV := Lib.hid (show quoted s.data.toList = false by
      unfold quoted; rw [decide_eq_false_iff_not, g0.out]; rintro ⟨_, h, _⟩; exact a (by simpa using h))
    have b : ((s[0].toNat : Int) == 34) = false := beqF _ 34 a
    clear a
    go_enter Tryd.func88, Tryd.ntmps88
    go_wp2
    go_ret
    exact ⟨ret_bool (by rw [HV.out]), rfl⟩
end Go.Proofs.YtchgelfomnbpaaaDoor
