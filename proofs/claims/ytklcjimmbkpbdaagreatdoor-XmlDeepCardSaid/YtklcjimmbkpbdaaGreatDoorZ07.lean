/-
  Of the proofs of layer 8 (elements of XML): the parts Ref Keep Make EA EB EG EH EI FA FE FF. No conditions.
-/
import Derived.Test.YtklcjimmbkpbdaaGreatDoorZ05
import Derived.Test.YtklcjimmbkpbdaaGreatDoorZ06
import Derived.Test.YtklcjimmbkpbdaaGreatDoorZ01
namespace Go.Proofs.YtklcjimmbkpbdaaGreatDoor
open Go.RowKit
open Go.Lib
def OwnI (w : World) (base : Nat) (v : Value) (zs : List Int) : Prop := w.ownsRow base 3 1 v zs.length (zs.map (Value.int .i64))
theorem app1 {ops : Array Oper} {rest : List Oper} {o : Oper} {a : Act} {Q : Exit → Act → World → Prop} (hgd : o.guard = none) (s x : Operand)
    (ho : o.op = .call { callee := .builtin .append, args := #[s, x], argTypes := #[74, 74] }) (w w0 : World) (B base : Nat) (v : Value) (zs : List Int) (z : Int)
    (hs : a.eval s = v) (hown : OwnI w base v zs) (hx : a.eval x = .slice (some ⟨w.heap.size, 0, none⟩) 1 1) (hlen : zs.length ≤ 10000000) (hbase : base ≤ w.heap.size) (hB : B ≤ base) (hb : Below B w0 w)
    (h : ∀ v' w', OwnI w' base v' (zs ++ [z]) → Below B w0 w' → wpList Tryz.prog ops Q rest (a.put o.dst v') w') :
    wpList Tryz.prog ops Q (o :: rest) a (w.alloc (.cells #[.int .i64 z] 3)) := by
 obtain ⟨i0, hi, hz0, hz1, hz2⟩ := info_parts Tryz.info3
 refine wpList_append_own _ hgd s x 74 ho base 3 i0 (.int .i64 0) 1 8 Tryz.underlying74 hi hz0 hz1 hz2 rfl (by decide) v zs.length _ hs (World.ownsRow.alloc hown _) ⟨w.heap.size, 0, none⟩ 1 1 [.int .i64 z] hx rfl (c1_one _ _ _ _) (c2_one _ _) (by unfold maxLen; omega) (by omega) (by simp; omega) ?_
 intro v' w' hown' hgrow _
 have R := own_more hB hown hb (by omega) hown' hgrow
 exact h v' w' R.1 R.2
theorem allPt_filter {l : List Int} (f : Int → Bool) (h : AllPt l) : AllPt (l.filter f) := fun p hp => h p (List.mem_filter.1 hp).1
set_option maxRecDepth 100000 in
set_option maxHeartbeats 2000000 in
theorem rplain_any (s : ByteArray) (w : World) (hs : s.size ≤ 1000000) : Calls Tryz.prog 26 #[.string s] w fun e w' => e = .returned (.string ⟨(enc ((pts s.data.toList).filter inXml)).toArray⟩) ∧ Below w.heap.size w w' := by
 have hL := pts_length_le s.data.toList
 have hL : (pts s.data.toList).length ≤ 1000000 := by simp at hL; omega
 have hc := rfixed_any s w hs
 have HP := hid (pts_allPt s.data.toList)
 generalize pts s.data.toList = zs at *
 go_enter Tryz.func26, Tryz.ntmps26
 go_wp2_with fail
 refine hc.mono ?_
 clear hc
 rintro e w1 ⟨A, c, rfl, hcap, hR, hbw1⟩
 go_wp2
 go_loopw [3, 9] (fun v i wr => ∃ (k : Nat) (ys : List Int), k ≤ zs.length ∧ i = .int .i64 k ∧ OwnI wr w1.heap.size v ys ∧ Below w1.heap.size w1 wr ∧ ys.length ≤ k ∧ Hid (ys = (zs.take k).filter inXml)) (fun _ i _ => zs.length - (RowKit.intOf i).toNat)
 case atStart => exact ⟨0, [], Nat.zero_le _, rfl, World.ownsRow_nil _ _ _ _, Below.refl _ _, by simp, by simp [Hid]⟩
 case round =>
  obtain ⟨k, ys, hk, rfl, hown, hbw, hyl, hys⟩ := hrel
  have hbsz := hbw.size
  by_cases hlt : k < zs.length
  ·obtain ⟨b, off, rfl, hblt, hcell⟩ := hR (by omega)
   have hx := (hbw.cell (p := ⟨b, off + k, none⟩) (by exact hblt)).trans (hcell k hlt)
   have HT := hid (List.take_succ_eq_append_getElem hlt)
   have HX : zs.getD k 0 = zs[k] := by simp [List.getD, List.getElem?_eq_getElem hlt]
   rw [HX] at hx
   generalize zs[k] = z at *
   clear hcell HX hR
   have hF0 := hid (show (zs.take (k + 1)).filter inXml = ys ++ (if inXml z = true then [z] else []) by rw [HT.out, List.filter_append, hys.out]; by_cases q : inXml z = true <;> simp [q])
   cases hin : inXml z with
   | true =>
    have hF := hid (show (ys ++ [z]) = (zs.take (k + 1)).filter inXml by rw [hF0.out, hin]; rfl)
    clear hF0
    have hcase : (32 ≤ z ∧ (z != 65534) = true ∧ (z != 65535) = true) ∨ z = 9 ∨ z = 10 ∨ z = 13 := by
     unfold inXml at hin
     rw [decide_eq_true_eq] at hin
     rcases hin with ⟨h1, h2, h3⟩ | h | h | h
     ·exact .inl ⟨h1, by rw [bne_iff_ne]; exact h2, by rw [bne_iff_ne]; exact h3⟩
     ·exact .inr (.inl h)
     ·exact .inr (.inr (.inl h))
     ·exact .inr (.inr (.inr h))
    clear hin
    rcases hcase with ⟨h1, h2, h3⟩ | rfl | rfl | rfl
    all_goals
     go_wp2_with (at_builtin; refine app1 rfl _ _ rfl wr w1 w1.heap.size w1.heap.size _ ys _ rfl (by exact hown) rfl (by omega) hbsz (Nat.le_refl _) hbw ?_)
     intro v' w2 hown' hb'
     clear hown hbw
     go_wp2
     go_roundw
     case rel => exact ⟨k + 1, _, by omega, by go_num, hown', hb', by simp; omega, hF⟩
     case measure => simp [RowKit.intOf]; omega
   | false =>
    have hF := hid (show ys = (zs.take (k + 1)).filter inXml by rw [hF0.out, hin]; simp)
    clear hF0
    have hcase : (z < 32 ∧ (z == 9) = false ∧ (z == 10) = false ∧ (z == 13) = false) ∨ z = 65534 ∨ z = 65535 := by
     unfold inXml at hin
     rw [decide_eq_false_iff_not] at hin
     by_cases q1 : z = 65534
     ·exact .inr (.inl q1)
     by_cases q2 : z = 65535
     ·exact .inr (.inr q2)
     refine .inl ⟨by omega, ?_, ?_, ?_⟩
     all_goals rw [beq_eq_false_iff_ne]; omega
    clear hin
    rcases hcase with ⟨h1, h2, h3, h4⟩ | rfl | rfl
    all_goals
     go_wp2
     go_roundw
     case rel => exact ⟨k + 1, ys, by omega, by go_num, hown, hbw, by omega, hF⟩
     case measure => simp [RowKit.intOf]; omega
  ·obtain ⟨A', c', rfl, hc', hRy⟩ := RI.of_own hown
   have he := hid (show ys = zs.filter inXml by have := hys.out; rwa [List.take_of_length_le (by omega)] at this)
   have ht := text_any A' c' ys wr (by omega) (by rw [he.out]; exact allPt_filter _ HP.out) hRy
   clear hRy hown
   go_wp2_with fail
   refine ht.mono ?_
   clear ht
   rintro e w2 ⟨rfl, hb2⟩
   go_wp2
   go_ret
   exact ⟨by rw [← he.out]; rfl, hbw1.trans ((hbw.mono hbw1.size).trans (hb2.mono (by have := hbw1.size; omega)))⟩
set_option maxRecDepth 100000 in
theorem inXML_any (r : Int) (w : World) : Calls Tryz.prog 75 #[.int .i32 r] w fun e w' => e = .returned (.bool (inXml r)) ∧ w = w' := by
 go_enter Tryz.func75, Tryz.ntmps75
 go_wp2
 all_goals (go_ret; refine ⟨ret_bool ?_, rfl⟩)
 all_goals (simp only [beq_iff_eq, beq_eq_false_iff_ne] at *; rw [Bool.eq_iff_iff]; simp only [inXml, decide_eq_true_eq, true_iff, false_iff, Bool.false_eq_true]; omega)
def ptsFrom (s : ByteArray) (k : Nat) : List Int := pts (s.data.toList.drop k)
theorem ptsFrom_step (s : ByteArray) (k : Nat) (h : k < s.size) : ptsFrom s k = ((Utf8.decode s k).1 : Int) :: ptsFrom s (k + (Utf8.decode s k).2) ∧ 1 ≤ (Utf8.decode s k).2 ∧ k + (Utf8.decode s k).2 ≤ s.size ∧ (Utf8.decode s k).1 ≤ 1114111 := by
 have hne : s.data.toList.drop k ≠ [] := by
  intro h
  have := congrArg List.length h
  simp at this
  omega
 have hstep := pts_cons (s.data.toList.drop k) hne
 have hle := decodeL_le (s.data.toList.drop k) hne
 have hwd := decodeL_width (s.data.toList.drop k)
 have hru := decodeL_rune (s.data.toList.drop k)
 rw [List.drop_drop] at hstep
 rw [List.length_drop] at hle
 rw [decodeL_drop] at hstep hle hwd hru
 refine ⟨hstep, hwd, ?_, hru⟩
 simp at hle
 omega
theorem ptsFrom_end (s : ByteArray) (k : Nat) (h : ¬ k < s.size) : ptsFrom s k = [] := by
 unfold ptsFrom
 rw [List.drop_of_length_le (by simp; omega)]
 rfl
theorem byteCells_enc (a : List Int) (p : Int) : byteCells (enc a) ++ runeCells p = byteCells (enc (a ++ [p])) := by
 rw [enc_append, byteCells_append, ← byteCells_encodeRune]
 simp [enc]
set_option maxRecDepth 100000 in
set_option maxHeartbeats 2000000 in
theorem keep_xml (s : ByteArray) (w : World) (hs : s.size ≤ 1000000) :
    Calls Tryz.prog 74 #[.string s, .func (Fn.func 75) #[] #[]] w fun e w' => e = .returned (.string ⟨(enc ((pts s.data.toList).filter inXml)).toArray⟩) ∧ Below w.heap.size w w' := by
 go_enter Tryz.func74, Tryz.ntmps74
 go_wp2
 go_loopw [] (fun wr => ∃ (k : Nat) (acc : List Int), k ≤ s.size ∧ Lib.IsBuilderF 69 5 w.heap.size w.heap.size (byteCells (enc acc)) wr ∧ wr.heap[w.heap.size + 1]? = some (.stringIter s k) ∧ Below w.heap.size w wr ∧ acc.length ≤ k ∧ Hid (acc ++ (ptsFrom s k).filter inXml = (pts s.data.toList).filter inXml))
  (fun wr => s.size - wr.iterPos (w.heap.size + 1))
 case atStart =>
  refine ⟨0, [], Nat.zero_le _, (Lib.IsBuilderF.of (Lib.fresh_isBuilder 69 5 w)).alloc _, ?_, ((Below.refl _ w).alloc (Nat.le_refl _) _).alloc (by simp) _, by simp, by simp [Hid, ptsFrom]⟩
  have := World.iter_heap (w.alloc (.cells #[.pointer none, .slice none 0 0] 69)) s 0
  simpa using this
 case round =>
  obtain ⟨k, acc, hk, hI, hit, hbw, hal, hac⟩ := hrel
  have hbsz : w.heap.size + 1 < wr.heap.size := (Array.getElem?_eq_some_iff.1 hit).1
  by_cases hlt : k < s.size
  ·have hnx : ∀ ty, (Instr.next (.pointer (some ⟨w.heap.size + 1, 0, none⟩)) true ty).run Tryz.prog wr = _ := fun ty => Lib.run_next_any_at wr (w.heap.size + 1) s k ty hit hlt
   obtain ⟨hstep, hwd, hle, hru⟩ := ptsFrom_step s k hlt
   have hI2 := hI.iterAt hit (k + (Utf8.decode s k).2)
   have hit2 := Lib.iterAt_heap wr (w.heap.size + 1) s k (k + (Utf8.decode s k).2) hit
   have hbw2 := Lib.below_iterAt hbw (k := w.heap.size + 1) (by omega) s (k + (Utf8.decode s k).2)
   have hsz2 : w.heap.size ≤ (wr.iterAt (w.heap.size + 1) s (k + (Utf8.decode s k).2)).heap.size := by rw [Lib.iterAt_size]; omega
   have hm : s.size - (k + (Utf8.decode s k).2) < s.size - k := by omega
   have HIT0 := hid hit
   have hel := enc_length_le acc
   generalize Utf8.decode s k = d at *
   obtain ⟨p, n⟩ := d
   simp only at hwd hle hru hstep hnx hI2 hit2 hbw2 hsz2 hm
   generalize wr.iterAt (w.heap.size + 1) s (k + n) = wi at *
   have HIT := hid hit2
   clear hit2 hit hbw hI
   cases hin : inXml (p : Int) with
   | true =>
    have H2 := hid (show (acc ++ [(p : Int)]) ++ (ptsFrom s (k + n)).filter inXml = (pts s.data.toList).filter inXml by rw [← hac.out, hstep, List.filter_cons, hin]; simp)
    clear hstep
    go_wp2_with (go_at_call 75; refine (inXML_any _ _).mono ?_; rintro e w' ⟨rfl, rfl⟩)
    refine (sbRune w.heap.size w.heap.size _ (p : Int) (by omega) (by omega) _ hI2 (by rw [Lib.byteCells_length]; omega) hsz2).mono ?_
    rintro e W1 ⟨rfl, h1, b1, k1⟩
    clear hin
    go_wp2
    go_roundw
    case rel =>
     refine ⟨k + n, acc ++ [(p : Int)], hle, ?_, k1.iter HIT.out (by omega), hbw2.trans b1, by simp; omega, H2⟩
     rw [← byteCells_enc]; exact Or.inr h1
    case measure => rw [iterPos_of (k1.iter HIT.out (by omega)), iterPos_of HIT0.out]; exact hm
   | false =>
    have H2 := hid (show acc ++ (ptsFrom s (k + n)).filter inXml = (pts s.data.toList).filter inXml by rw [← hac.out, hstep, List.filter_cons, hin]; simp)
    clear hstep
    go_wp2_with (go_at_call 75; refine (inXML_any _ _).mono ?_; rintro e w' ⟨rfl, rfl⟩)
    clear hin
    go_roundw
    case rel => exact ⟨k + n, acc, hle, hI2, HIT.out, hbw2, by omega, H2⟩
    case measure => rw [iterPos_of HIT.out, iterPos_of HIT0.out]; exact hm
  ·have hnx : ∀ ty, (Instr.next (.pointer (some ⟨w.heap.size + 1, 0, none⟩)) true ty).run Tryz.prog wr = _ := fun ty => Lib.run_next_end_at wr (w.heap.size + 1) s k ty hit hlt
   have HE := hid (ptsFrom_end s k hlt)
   clear hit
   go_wp2_with fail
   refine (sbString w.heap.size w.heap.size (enc acc) _ hI (by omega)).mono ?_
   rintro e W1 ⟨rfl, _, b1, _⟩
   go_wp2
   go_ret
   have hq := hac.out
   rw [HE.out] at hq
   simp only [List.filter_nil, List.append_nil] at hq
   rw [← hq]
   exact ⟨rfl, hbw.trans b1⟩
theorem plain_any (s : ByteArray) (w : World) (hs : s.size ≤ 1000000) :
    Calls Tryz.prog 50 #[.string s] w fun e w' => e = .returned (.string ⟨(enc ((pts s.data.toList).filter inXml)).toArray⟩) ∧ Below w.heap.size w w' := by
 have hc := keep_xml s w hs
 go_enter Tryz.func50, Tryz.ntmps50
 go_wp2_with fail
 refine hc.mono ?_
 rintro e w1 ⟨rfl, hb⟩
 go_wp2
 go_ret
 exact ⟨rfl, hb⟩
def MakeOut (l : List Int) (w : World) (e : Ending) (w' : World) : Prop :=
 (e = .returned (.tuple #[.string ⟨(if l.all isPt = true then enc l else []).toArray⟩, .int .i64 (if l.all isPt = true then 0 else 2)])) ∧ Below w.heap.size w w'
theorem MakeOut.good {l : List Int} {w w' : World} (h : l.all isPt = true) (hb : Below w.heap.size w w') : MakeOut l w (.returned (.tuple #[.string ⟨(enc l).toArray⟩, .int .i64 0])) w' := by
 unfold MakeOut; rw [if_pos h, if_pos h]; exact ⟨rfl, hb⟩
theorem MakeOut.bad {l : List Int} {w w' : World} (h : l.all isPt = false) (hb : Below w.heap.size w w') : MakeOut l w (.returned (.tuple #[.string ⟨#[]⟩, .int .i64 2])) w' := by
 unfold MakeOut; rw [h]; exact ⟨rfl, hb⟩
set_option maxRecDepth 100000 in
set_option maxHeartbeats 2000000 in
theorem make_any (A : Option Addr) (c : Nat) (l : List Int) (w : World) (hl : l.length ≤ 1000000) (hR : RI w A l) :
    Calls Tryz.prog 162 #[.slice A l.length c] w (MakeOut l w) := by
 go_enter Tryz.func162, Tryz.ntmps162
 go_wp2
 go_loopw [9] (fun i wr => ∃ (k : Nat) (acc : List Int), k ≤ l.length ∧ i = .int .i64 k ∧ Lib.IsBuilderF 69 5 w.heap.size w.heap.size (byteCells (enc acc)) wr ∧ Below w.heap.size w wr ∧ w.heap.size < wr.heap.size ∧ acc.length ≤ k ∧ Hid (acc = l.take k ∧ acc.all isPt = true)) (fun i _ => l.length - (RowKit.intOf i).toNat)
 case atStart => exact ⟨0, [], Nat.zero_le _, rfl, Lib.IsBuilderF.of (Lib.fresh_isBuilder 69 5 w), (Below.refl _ w).alloc (Nat.le_refl _) _, by simp, by simp, by simp [Hid]⟩
 case round =>
  obtain ⟨k, acc, hk, rfl, hI, hbw, hbsz, hal, hac⟩ := hrel
  by_cases hlt : k < l.length
  ·obtain ⟨b, off, rfl, hblt, hcell⟩ := hR (by omega)
   have hx := (hbw.cell (p := ⟨b, off + k, none⟩) (by exact hblt)).trans (hcell k hlt)
   have HT := hid (List.take_succ_eq_append_getElem hlt)
   have HX : l.getD k 0 = l[k] := by simp [List.getD, List.getElem?_eq_getElem hlt]
   rw [HX] at hx
   have HM := hid (List.getElem_mem hlt)
   generalize l[k] = z at *
   clear hcell HX hR
   have hel := enc_length_le acc
   cases hin : isPt z with
   | true =>
    obtain ⟨z0, z1, z2⟩ := (isPt_iff z).1 hin
    clear z2
    have H2 := hid (show (acc ++ [z]) = l.take (k + 1) ∧ (acc ++ [z]).all isPt = true by rw [HT.out, ← hac.out.1, List.all_append, hac.out.2]; simp [hin])
    have hr := sbRune w.heap.size w.heap.size _ z (by omega) (by omega) wr hI (by rw [Lib.byteCells_length]; omega) (by omega)
    rw [byteCells_enc] at hr
    go_wp2_with (go_at_call 165; refine (isPoint_any _ _).mono ?_; rintro e w' ⟨rfl, rfl⟩)
    refine hr.mono ?_
    clear hr
    rintro e W1 ⟨rfl, h1, b1, k1⟩
    have := b1.size
    clear hin hI
    go_wp2
    go_roundw
    case rel => exact ⟨k + 1, _, by omega, by go_num, Or.inr h1, hbw.trans b1, by omega, by simp; omega, H2⟩
    case measure => simp [RowKit.intOf]; omega
   | false =>
    have HB := hid (show l.all isPt = false by
     rw [Bool.eq_false_iff]; intro h; have := List.all_eq_true.1 h z HM.out; rw [hin] at this; cases this)
    go_wp2_with (go_at_call 165; refine (isPoint_any _ _).mono ?_; rintro e w' ⟨rfl, rfl⟩)
    go_ret2
    exact MakeOut.bad HB.out hbw
  ·have HA := hid (show acc = l ∧ l.all isPt = true by
    have := hac.out
    rw [List.take_of_length_le (by omega)] at this
    exact ⟨this.1, this.1 ▸ this.2⟩)
   go_wp2_with fail
   refine (sbString w.heap.size w.heap.size (enc acc) _ hI (by omega)).mono ?_
   rintro e W1 ⟨rfl, _, b1, _⟩
   go_wp2
   go_ret2
   rw [HA.out.1]
   exact MakeOut.good HA.out.2 (hbw.trans b1)
theorem size_list (s : ByteArray) : s.size = s.data.toList.length := by simp
theorem take_snoc (s : ByteArray) (k : Nat) (h : k < s.size) : s.data.toList.take (k + 1) = s.data.toList.take k ++ [s[k]] := by
 rw [List.take_succ_eq_append_getElem (by simpa using h)]; rfl
theorem valD_bd (base : Int) (hb : 0 ≤ base) (hb2 : base ≤ 16) (l : List UInt8) (hl : l.length ≤ 7) (hall : l.all (isD base) = true) : 0 ≤ valD base l ∧ valD base l ≤ 268435455 := by
 have : ∀ (l : List UInt8) (n m : Int), 0 ≤ n → n ≤ m → (∀ c ∈ l, isD base c = true) → 0 ≤ l.foldl (fun n c => n * base + digN c) n ∧ l.foldl (fun n c => n * base + digN c) n ≤ (m + 1) * 16 ^ l.length - 1 := by
  intro l
  induction l with
  | nil => intro n m h0 h1 _; simp; omega
  | cons c l ih =>
   intro n m h0 h1 hc
   have hd := hc c List.mem_cons_self
   simp [isD] at hd
   have hp := Int.mul_nonneg h0 hb
   have hq : n * base ≤ m * 16 := Int.mul_le_mul h1 hb2 hb (by omega)
   have := ih (n * base + digN c) (m * 16 + 15) (by omega) (by omega) (fun d hd => hc d (List.mem_cons_of_mem _ hd))
   rw [List.foldl_cons, List.length_cons, Int.pow_succ]
   refine ⟨this.1, Int.le_trans this.2 ?_⟩
   have e : (m * 16 + 15 + 1) * (16 : Int) ^ l.length = (m + 1) * (16 ^ l.length * 16) := by
    rw [show m * 16 + 15 + 1 = (m + 1) * 16 by omega, Int.mul_assoc, Int.mul_comm 16]
   omega
 have h := this l 0 0 (by omega) (by omega) (List.all_eq_true.1 hall)
 refine ⟨h.1, Int.le_trans h.2 ?_⟩
 have hp : (16 : Int) ^ l.length ≤ 16 ^ 7 := by
  have := Nat.pow_le_pow_right (n := 16) (by omega) hl
  exact_mod_cast this
 omega
set_option maxRecDepth 100000 in
theorem digit_any (c : UInt8) (w : World) : Calls Tryz.prog 166 #[.int .u8 c.toNat] w fun e w' => e = .returned (.int .i64 (digN c)) ∧ w = w' := by
 have hc : c.toNat < 256 := UInt8.toNat_lt c
 by_cases a : 48 ≤ c.toNat ∧ c.toNat ≤ 57
 ·obtain ⟨a1, a2⟩ := a
  go_enter Tryz.func166, Tryz.ntmps166
  go_wp2
  go_ret
  exact ⟨ret_int (by unfold digN; rw [if_pos ⟨a1, a2⟩]), rfl⟩
 by_cases b : 97 ≤ c.toNat ∧ c.toNat ≤ 102
 ·obtain ⟨b1, b2⟩ := b
  go_enter Tryz.func166, Tryz.ntmps166
  go_wp2
  go_ret
  exact ⟨ret_int (by unfold digN; rw [if_neg a, if_pos ⟨b1, b2⟩]; omega), rfl⟩
 by_cases d : 65 ≤ c.toNat ∧ c.toNat ≤ 70
 ·obtain ⟨d1, d2⟩ := d
  go_enter Tryz.func166, Tryz.ntmps166
  go_wp2
  go_ret
  exact ⟨ret_int (by unfold digN; rw [if_neg a, if_neg b, if_pos ⟨d1, d2⟩]; omega), rfl⟩
 ·have HV := hid (show digN c = -1 by unfold digN; rw [if_neg a, if_neg b, if_neg d])
  go_enter Tryz.func166, Tryz.ntmps166
  go_wp2
  all_goals first | (exfalso; omega) | (go_ret; exact ⟨ret_int (by rw [HV.out]), rfl⟩)
theorem empty_of (s : ByteArray) (h : s.size = 0) : s = ⟨#[]⟩ := by
 apply ByteArray.ext
 exact Array.eq_empty_of_size_eq_zero h
theorem list_ne (s : ByteArray) (h : 0 < s.size) : s.toList ≠ [] := by
 rw [Lib.toList_data]
 intro e
 have := congrArg List.length e
 rw [← size_list s, List.length_nil] at this
 omega
theorem numP_bad {base : Int} {m : Nat} {l : List UInt8} (c : UInt8) (hc : c ∈ l) (h : isD base c = false) : numP base m l = -1 := by
 apply numP_neg
 refine .inr (.inr ?_)
 rw [Bool.eq_false_iff]
 intro ha
 rw [List.all_eq_true.1 ha c hc] at h
 cases h
theorem numP_good {base : Int} {m : Nat} {l : List UInt8} (h0 : l ≠ []) (h1 : l.length ≤ m) (h2 : l.all (isD base) = true) : numP base m l = valD base l := by
 unfold numP
 rw [if_neg]
 rintro (h | h | h)
 ·exact h0 h
 ·omega
 ·rw [h2] at h; cases h
set_option maxRecDepth 100000 in
theorem number16_any (s : ByteArray) (m : Nat) (w : World) (hm : m ≤ 7) : Calls Tryz.prog 164 #[.string s, .int .i64 16, .int .i64 m] w fun e w' => e = .returned (.int .i64 (numP 16 m s.data.toList)) ∧ w = w' := by
 by_cases h0 : s.size = 0
 ·obtain rfl := empty_of s h0
  clear h0
  go_enter Tryz.func164, Tryz.ntmps164
  go_wp2
  go_ret
  exact ⟨ret_int (by rw [numP_neg _ _ _ (.inl rfl)]), rfl⟩
 have hp : 0 < s.size := by omega
 clear h0
 have hne := list_ne s hp
 have hne2 : (s.toList == ([] : List UInt8)) = false := by simpa using hne
 have HL := hid (size_list s)
 by_cases h1 : m < s.size
 ·have HV := hid (numP_neg 16 m s.data.toList (.inr (.inl (by rw [← HL.out]; exact h1))))
  go_enter Tryz.func164, Tryz.ntmps164
  go_wp2
  all_goals first | (exfalso; omega) | (go_ret; exact ⟨ret_int (by rw [HV.out]), rfl⟩)
 ·have h2 : s.size ≤ m := by omega
  clear h1
  have hdm : decide (m < s.size) = false := by simpa using h2
  go_enter Tryz.func164, Tryz.ntmps164
  go_wp2
  go_loop [7, 20] (fun n i => ∃ k : Nat, k ≤ s.size ∧ i = .int .i64 k ∧ n = .int .i64 (valD 16 (s.data.toList.take k)) ∧ Hid ((s.data.toList.take k).all (isD 16) = true)) (fun _ i => s.size - (RowKit.intOf i).toNat)
  case atStart => exact ⟨0, Nat.zero_le _, rfl, rfl, by simp [Hid]⟩
  case round =>
   obtain ⟨k, hk, rfl, rfl, hall⟩ := hrel
   have hbd := valD_bd 16 (by omega) (by omega) (s.data.toList.take k) (by rw [List.length_take]; omega) hall.out
   by_cases hlt : k < s.size
   ·have HT := hid (take_snoc s k hlt)
    have HS := hid (valD_snoc 16 (s.data.toList.take k) s[k])
    have hmem := hid (show s[k] ∈ s.data.toList from List.getElem_mem _)
    have hdb := digN_bd s[k]
    by_cases hd : 0 ≤ digN s[k] ∧ digN s[k] < 16
    ·obtain ⟨d0, d1⟩ := hd
     have HD := hid (show isD 16 s[k] = true by simp [isD, d0, d1])
     go_wp2_with (go_at_call 166; refine (digit_any _ _).mono ?_; rintro e w' ⟨rfl, rfl⟩)
     go_round
     case rel => exact ⟨k + 1, by omega, by go_num, by rw [HT.out, HS.out], by show _ = true; rw [HT.out, List.all_append, hall.out]; simp [HD.out]⟩
     case measure => simp [RowKit.intOf]; omega
    ·have HV := hid (show numP 16 m s.data.toList = -1 from numP_bad _ hmem.out (by rw [Bool.eq_false_iff]; intro h; simp [isD] at h; exact hd h))
     have hd2 : digN s[k] < 0 ∨ 16 ≤ digN s[k] := by omega
     clear hd
     rcases hd2 with d0 | d0
     all_goals
      go_wp2_with (go_at_call 166; refine (digit_any _ _).mono ?_; rintro e w' ⟨rfl, rfl⟩)
      all_goals first | (exfalso; omega) | (go_ret; exact ⟨ret_int (by rw [HV.out]), rfl⟩)
   ·have HE := hid (show s.data.toList.take k = s.data.toList from List.take_of_length_le (by simp; omega))
    go_wp2
    go_ret
    refine ⟨ret_int ?_, rfl⟩
    have ha := hall.out
    rw [HE.out] at ha ⊢
    exact (numP_good (by rw [← Lib.toList_data]; exact hne) (by rw [← HL.out]; omega) ha).symm
set_option maxRecDepth 100000 in
theorem number10_any (s : ByteArray) (m : Nat) (w : World) (hm : m ≤ 7) : Calls Tryz.prog 164 #[.string s, .int .i64 10, .int .i64 m] w fun e w' => e = .returned (.int .i64 (numP 10 m s.data.toList)) ∧ w = w' := by
 by_cases h0 : s.size = 0
 ·obtain rfl := empty_of s h0
  clear h0
  go_enter Tryz.func164, Tryz.ntmps164
  go_wp2
  go_ret
  exact ⟨ret_int (by rw [numP_neg _ _ _ (.inl rfl)]), rfl⟩
 have hp : 0 < s.size := by omega
 clear h0
 have hne := list_ne s hp
 have hne2 : (s.toList == ([] : List UInt8)) = false := by simpa using hne
 have HL := hid (size_list s)
 by_cases h1 : m < s.size
 ·have HV := hid (numP_neg 10 m s.data.toList (.inr (.inl (by rw [← HL.out]; exact h1))))
  go_enter Tryz.func164, Tryz.ntmps164
  go_wp2
  all_goals first | (exfalso; omega) | (go_ret; exact ⟨ret_int (by rw [HV.out]), rfl⟩)
 ·have h2 : s.size ≤ m := by omega
  clear h1
  have hdm : decide (m < s.size) = false := by simpa using h2
  go_enter Tryz.func164, Tryz.ntmps164
  go_wp2
  go_loop [7, 20] (fun n i => ∃ k : Nat, k ≤ s.size ∧ i = .int .i64 k ∧ n = .int .i64 (valD 10 (s.data.toList.take k)) ∧ Hid ((s.data.toList.take k).all (isD 10) = true)) (fun _ i => s.size - (RowKit.intOf i).toNat)
  case atStart => exact ⟨0, Nat.zero_le _, rfl, rfl, by simp [Hid]⟩
  case round =>
   obtain ⟨k, hk, rfl, rfl, hall⟩ := hrel
   have hbd := valD_bd 10 (by omega) (by omega) (s.data.toList.take k) (by rw [List.length_take]; omega) hall.out
   by_cases hlt : k < s.size
   ·have HT := hid (take_snoc s k hlt)
    have HS := hid (valD_snoc 10 (s.data.toList.take k) s[k])
    have hmem := hid (show s[k] ∈ s.data.toList from List.getElem_mem _)
    have hdb := digN_bd s[k]
    by_cases hd : 0 ≤ digN s[k] ∧ digN s[k] < 10
    ·obtain ⟨d0, d1⟩ := hd
     have HD := hid (show isD 10 s[k] = true by simp [isD, d0, d1])
     go_wp2_with (go_at_call 166; refine (digit_any _ _).mono ?_; rintro e w' ⟨rfl, rfl⟩)
     go_round
     case rel => exact ⟨k + 1, by omega, by go_num, by rw [HT.out, HS.out], by show _ = true; rw [HT.out, List.all_append, hall.out]; simp [HD.out]⟩
     case measure => simp [RowKit.intOf]; omega
    ·have HV := hid (show numP 10 m s.data.toList = -1 from numP_bad _ hmem.out (by rw [Bool.eq_false_iff]; intro h; simp [isD] at h; exact hd h))
     have hd2 : digN s[k] < 0 ∨ 10 ≤ digN s[k] := by omega
     clear hd
     rcases hd2 with d0 | d0
     all_goals
      go_wp2_with (go_at_call 166; refine (digit_any _ _).mono ?_; rintro e w' ⟨rfl, rfl⟩)
      all_goals first | (exfalso; omega) | (go_ret; exact ⟨ret_int (by rw [HV.out]), rfl⟩)
   ·have HE := hid (show s.data.toList.take k = s.data.toList from List.take_of_length_le (by simp; omega))
    go_wp2
    go_ret
    refine ⟨ret_int ?_, rfl⟩
    have ha := hall.out
    rw [HE.out] at ha ⊢
    exact (numP_good (by rw [← Lib.toList_data]; exact hne) (by rw [← HL.out]; omega) ha).symm
def strLen (v : Value) : Nat := match v with | .string r => r.size | _ => 0
theorem getE? (s : ByteArray) (k : Nat) (h : k < s.size) : s.data.toList[k]? = some s[k] := by
 rw [List.getElem?_eq_getElem (by simpa using h)]; rfl
theorem u8_ne (c d : UInt8) (h : c ≠ d) : c.toNat ≠ d.toNat := fun e => h (UInt8.toNat_inj.1 e)
theorem beqF (c d : UInt8) (h : c ≠ d) : ((c.toNat : Int) == (d.toNat : Int)) = false := by
 have := u8_ne c d h
 rw [beq_eq_false_iff_ne]
 omega
set_option maxRecDepth 100000 in
theorem bf_below {T e : TypeId} {B b : Nat} {bs : List Value} {w w' : World} (h : Lib.IsBuilderF T e B b bs w) (hb : Below w.heap.size w w') : Lib.IsBuilderF T e B b bs w' := by
 have one : ∀ {p : Value}, Lib.BuilderAtF T e B b p bs w → Lib.BuilderAtF T e B b p bs w' := by
  intro p h
  have hlt := h.lt
  obtain ⟨h1, v, hv, hown, h2⟩ := h
  refine ⟨h1, v, ?_, ?_, h2⟩
  ·rw [hb.block b hlt]; exact hv
  ·refine hown.kept (row := none) ⟨hb.os, hb.tape, hb.output, hb.size, fun k hk _ => hb.block k hk⟩ (Classical.em _)
 rcases h with h | h
 ·exact .inl (one h)
 ·exact .inr (one h)
theorem take_extract (s : ByteArray) (k : Nat) : (s.extract 0 k).data.toList = s.data.toList.take k := by
 simp [ByteArray.data_extract]
theorem index_at {s : ByteArray} {c : UInt8} {i : Nat} (h : Lib.indexByte s.data.toList c = i) : i < s.size ∧ s.data.toList = s.data.toList.take i ++ c :: s.data.toList.drop (i + 1) ∧ c ∉ s.data.toList.take i := by
 obtain ⟨h1, h2⟩ := Lib.indexByte_some h
 have hl : i < s.data.toList.length := (List.getElem?_eq_some_iff.1 h1).1
 have hg : s.data.toList[i] = c := (List.getElem?_eq_some_iff.1 h1).2
 refine ⟨by rw [size_list]; exact hl, ?_, ?_⟩
 ·have := List.drop_eq_getElem_cons hl
  rw [hg] at this
  rw [← this, List.take_append_drop]
 ·intro hm
  obtain ⟨k, hk, he⟩ := List.getElem_of_mem hm
  rw [List.length_take] at hk
  rw [List.getElem_take] at he
  exact h2 k (by omega) (by rw [List.getElem?_eq_getElem (by omega), he])
theorem index_not {l : List UInt8} {c : UInt8} (h : Lib.indexByte l c = -1) : c ∉ l := by
 intro hm
 obtain ⟨k, hk, he⟩ := List.getElem_of_mem hm
 exact Lib.indexByte_none h k (by rw [List.getElem?_eq_getElem hk, he])
theorem index_or (l : List UInt8) (c : UInt8) : Lib.indexByte l c = -1 ∨ ∃ i : Nat, Lib.indexByte l c = i := by
 have := Lib.indexByte_ge l c
 by_cases h : Lib.indexByte l c = -1
 ·exact .inl h
 ·exact .inr ⟨(Lib.indexByte l c).toNat, by omega⟩
def CutOut (a b : ByteArray) (ok : Bool) (w : World) (e : Ending) (w' : World) : Prop := e = .returned (.tuple #[.string a, .string b, .bool ok]) ∧ Below w.heap.size w w'
set_option maxRecDepth 100000 in
theorem scut_yes (s : ByteArray) (c : UInt8) (i : Nat) (w : World) (hs : s.size ≤ 1000000) (hi : Lib.indexByte s.data.toList c = i) : Calls Tryz.prog 138 #[.string s, .string ⟨#[c]⟩] w (CutOut (s.extract 0 i) (s.extract (i + 1) s.size) true w) := by
 have hc := libIndex1 s c w
 rw [hi] at hc
 have hlt := (index_at hi).1
 clear hi
 go_enter Tryz.func138, Tryz.ntmps138
 go_wp2_with fail
 refine hc.mono ?_
 clear hc
 rintro e w' ⟨rfl, rfl⟩
 have e1 : IntKind.i64.wrap ((i : Int) + 1) = (i : Int) + 1 := IntWalk.i64_in _ (by omega)
 have e2 : ((i : Int) + 1).toNat = i + 1 := by omega
 have e3 : (0 : Int) ≤ (i : Int) + 1 := by omega
 have e4 : i + 1 ≤ s.size := by omega
 have e5 : i ≤ s.size := by omega
 go_wp2
 go_quiet (fail)
 clear e1 e2
 go_wp2
 go_ret3
 exact ⟨rfl, below_drewN (Below.refl _ _) _⟩
set_option maxRecDepth 100000 in
theorem scut_no (s : ByteArray) (c : UInt8) (w : World) (hi : Lib.indexByte s.data.toList c = -1) : Calls Tryz.prog 138 #[.string s, .string ⟨#[c]⟩] w (CutOut s ⟨#[]⟩ false w) := by
 have hc := libIndex1 s c w
 rw [hi] at hc
 clear hi
 go_enter Tryz.func138, Tryz.ntmps138
 go_wp2_with fail
 refine hc.mono ?_
 clear hc
 rintro e w' ⟨rfl, rfl⟩
 go_wp2
 go_ret3
 exact ⟨rfl, Below.refl _ _⟩
set_option maxRecDepth 100000 in
theorem cut_go (s : ByteArray) (c : UInt8) (a b : ByteArray) (ok : Bool) (w : World) (hc : Calls Tryz.prog 138 #[.string s, .string ⟨#[c]⟩] w (CutOut a b ok w)) : Calls Tryz.prog 119 #[.string s, .string ⟨#[c]⟩] w (CutOut a b ok w) := by
 go_enter Tryz.func119, Tryz.ntmps119
 go_wp2_with fail
 refine hc.mono ?_
 clear hc
 rintro e w' ⟨rfl, hb⟩
 go_wp2
 go_ret3
 exact ⟨rfl, hb⟩
def isX (l : List UInt8) : Bool := decide (l.head? = some 120 ∨ l.head? = some 88)
theorem head_at (s : ByteArray) (h : 0 < s.size) : s.data.toList.head? = some s[0] := by
 rw [List.head?_eq_getElem?]; exact getE? s 0 h
def CutXOut (s : ByteArray) (w : World) (e : Ending) (w' : World) : Prop := e = .returned (.tuple #[.string (if isX s.data.toList = true then s.extract 1 s.size else ⟨#[]⟩), .bool (isX s.data.toList)]) ∧ w = w'
theorem CutXOut.yes {s : ByteArray} {w : World} (h : isX s.data.toList = true) : CutXOut s w (.returned (.tuple #[.string (s.extract 1 s.size), .bool true])) w := by
 unfold CutXOut; rw [h]; exact ⟨rfl, rfl⟩
theorem CutXOut.no {s : ByteArray} {w : World} (h : isX s.data.toList = false) : CutXOut s w (.returned (.tuple #[.string ⟨#[]⟩, .bool false])) w := by
 unfold CutXOut; rw [h]; exact ⟨rfl, rfl⟩
set_option maxRecDepth 100000 in
theorem cutX_any (s : ByteArray) (w : World) (hs : s.size ≤ 1000000) : Calls Tryz.prog 163 #[.string s] w (CutXOut s w) := by
 by_cases h0 : s.size = 0
 ·obtain rfl := empty_of s h0
  clear h0
  go_enter Tryz.func163, Tryz.ntmps163
  go_wp2
  go_ret2
  exact CutXOut.no rfl
 have hp : 0 < s.size := by omega
 clear h0
 have hne := list_ne s hp
 have hne2 : (s.toList == ([] : List UInt8)) = false := by simpa using hne
 have hne3 : (s.toList != ([] : List UInt8)) = true := by simpa using hne
 have HH := hid (head_at s hp)
 by_cases a : s[0] = 120
 ·have HV := hid (show isX s.data.toList = true by unfold isX; rw [HH.out, a]; rfl)
  have b : ((s[0].toNat : Int) == 120) = true := by rw [a]; decide
  clear a
  go_enter Tryz.func163, Tryz.ntmps163
  go_wp2
  go_ret2
  exact CutXOut.yes HV.out
 have b : ((s[0].toNat : Int) == 120) = false := beqF _ 120 a
 by_cases c : s[0] = 88
 ·have HV := hid (show isX s.data.toList = true by unfold isX; rw [HH.out, c]; rfl)
  have d : ((s[0].toNat : Int) == 88) = true := by rw [c]; decide
  clear a c
  go_enter Tryz.func163, Tryz.ntmps163
  go_wp2
  go_ret2
  exact CutXOut.yes HV.out
 ·have HV := hid (show isX s.data.toList = false by unfold isX; rw [HH.out]; simp [a, c])
  have d : ((s[0].toNat : Int) == 88) = false := beqF _ 88 c
  clear a c
  go_enter Tryz.func163, Tryz.ntmps163
  go_wp2
  go_ret2
  exact CutXOut.no HV.out
def numI (l : List UInt8) : Int := if l.head? = some 35 then sharp (l.drop 1) else -1
theorem pre35 (l : List UInt8) : ([35] : List UInt8).isPrefixOf l = decide (l.head? = some 35) := by
 cases l with
 | nil => rfl
 | cons c r =>
  rw [Bool.eq_iff_iff]
  simp [List.isPrefixOf]
  exact eq_comm
set_option maxRecDepth 100000 in
theorem numbered_any (s : ByteArray) (w : World) (hs : s.size ≤ 1000000) : Calls Tryz.prog 161 #[.string s] w fun e w' => e = .returned (.int .i64 (numI s.data.toList)) ∧ w = w' := by
 have hc := libCutPrefix s ⟨#[35]⟩ w
 rw [show (⟨#[35]⟩ : ByteArray).data.toList = [35] from rfl] at hc
 by_cases h : s.data.toList.head? = some 35
 ·have hp : Lib.hasPrefix s.data.toList [35] = true := by unfold Lib.hasPrefix; rw [pre35, h]; rfl
  have ht : Lib.trimPrefix s.data.toList [35] = s.data.toList.drop 1 := by unfold Lib.trimPrefix; rw [hp]; rfl
  rw [hp, ht] at hc
  have HV := hid (show numI s.data.toList = sharp (s.data.toList.drop 1) by unfold numI; rw [if_pos h])
  clear h hp ht
  obtain ⟨t, ht⟩ : ∃ t : ByteArray, t = ⟨(s.data.toList.drop 1).toArray⟩ := ⟨_, rfl⟩
  rw [← ht] at hc
  have HL := hid (show s.data.toList.drop 1 = t.data.toList by rw [ht])
  have hts : t.size ≤ 1000000 := by rw [size_list t, ← HL.out, List.length_drop, ← size_list]; omega
  clear ht
  have hx := cutX_any t w hts
  have HX := hid (show isX t.data.toList = decide (t.data.toList.head? = some 120 ∨ t.data.toList.head? = some 88) from rfl)
  unfold CutXOut at hx
  cases hi : isX t.data.toList with
  | true =>
   rw [hi, if_pos rfl] at hx
   have HS := hid (show sharp t.data.toList = numP 16 6 (t.data.toList.drop 1) by
    unfold sharp; rw [if_pos]; have := HX.out; rw [hi] at this; exact of_decide_eq_true this.symm)
   have HD := hid (drop_extract t 1)
   have hn := number16_any (t.extract 1 t.size) 6 w (by omega)
   rw [HD.out] at hn
   clear hi
   go_enter Tryz.func161, Tryz.ntmps161
   go_wp2_with fail
   refine hc.mono ?_
   clear hc
   rintro e w' ⟨rfl, rfl⟩
   go_wp2_with fail
   refine hx.mono ?_
   clear hx
   rintro e w' ⟨rfl, rfl⟩
   go_wp2_with fail
   refine hn.mono ?_
   clear hn
   rintro e w' ⟨rfl, rfl⟩
   go_wp2
   go_ret
   exact ⟨ret_int (by rw [HV.out, HL.out, HS.out, List.drop_one]), rfl⟩
  | false =>
   rw [hi, if_neg (by decide)] at hx
   have HS := hid (show sharp t.data.toList = numP 10 7 t.data.toList by
    unfold sharp; rw [if_neg]; have := HX.out; rw [hi] at this; exact of_decide_eq_false this.symm)
   have hn := number10_any t 7 w (by omega)
   clear hi
   go_enter Tryz.func161, Tryz.ntmps161
   go_wp2_with fail
   refine hc.mono ?_
   clear hc
   rintro e w' ⟨rfl, rfl⟩
   go_wp2_with fail
   refine hx.mono ?_
   clear hx
   rintro e w' ⟨rfl, rfl⟩
   go_wp2_with fail
   refine hn.mono ?_
   clear hn
   rintro e w' ⟨rfl, rfl⟩
   go_wp2
   go_ret
   exact ⟨ret_int (by rw [HV.out, HL.out, HS.out]), rfl⟩
 ·have hp : Lib.hasPrefix s.data.toList [35] = false := by unfold Lib.hasPrefix; rw [pre35, decide_eq_false h]
  rw [hp] at hc
  have HV := hid (show numI s.data.toList = -1 by unfold numI; rw [if_neg h])
  generalize Lib.trimPrefix s.data.toList [35] = t at hc
  clear h hp
  go_enter Tryz.func161, Tryz.ntmps161
  go_wp2_with fail
  refine hc.mono ?_
  clear hc
  rintro e w' ⟨rfl, rfl⟩
  go_wp2
  go_ret
  exact ⟨ret_int (by rw [HV.out]), rfl⟩
def namedL (l : List UInt8) : List UInt8 := if nameP l = -1 then [] else encodeRune (nameP l)
def NamedOut (l : List UInt8) (w : World) (e : Ending) (w' : World) : Prop := e = .returned (.string ⟨(namedL l).toArray⟩) ∧ Below w.heap.size w w'
theorem NamedOut.mk {l r : List UInt8} {w w' : World} (h : namedL l = r) (hb : Below w.heap.size w w') : NamedOut l w (.returned (.string ⟨r.toArray⟩)) w' := by subst h; exact ⟨rfl, hb⟩
theorem numI_bd (l : List UInt8) : -1 ≤ numI l ∧ numI l ≤ 268435455 := by
 have key : ∀ (base : Int) (m : Nat) (ds : List UInt8), 0 ≤ base → base ≤ 16 → m ≤ 7 → -1 ≤ numP base m ds ∧ numP base m ds ≤ 268435455 := by
  intro base m ds h0 h1 h2
  unfold numP
  split
  ·omega
  ·rename_i h
   have h3 : ds.length ≤ m := by
    apply Decidable.byContradiction; intro hh; exact h (.inr (.inl (by omega)))
   have h4 : ds.all (isD base) = true := by
    cases hh : ds.all (isD base) with
    | true => rfl
    | false => exact absurd (.inr (.inr hh)) h
   have := valD_bd base h0 h1 ds (by omega) h4
   omega
 unfold numI
 split
 ·unfold sharp
  split
  ·exact key 16 6 _ (by omega) (by omega) (by omega)
  ·exact key 10 7 _ (by omega) (by omega) (by omega)
 ·omega
theorem nameP_num (l : List UInt8) (h1 : l ≠ [97, 109, 112]) (h2 : l ≠ [108, 116]) (h3 : l ≠ [103, 116]) (h4 : l ≠ [113, 117, 111, 116]) (h5 : l ≠ [97, 112, 111, 115]) : nameP l = chk (numI l) := by
 unfold nameP
 rw [if_neg h1, if_neg h2, if_neg h3, if_neg h4, if_neg h5]
 unfold numI
 split
 ·rfl
 ·rfl
theorem namedL_low (l : List UInt8) (h : nameP l = chk (numI l)) (hn : numI l < 1) : namedL l = [] := by
 unfold namedL; rw [h, if_pos]; unfold chk; rw [if_neg (by omega)]
theorem namedL_num (l : List UInt8) (h : nameP l = chk (numI l)) (hn : 1 ≤ numI l) : namedL l = if [numI l].all isPt = true then enc [numI l] else [] := by
 unfold namedL
 rw [h]
 cases hp : isPt (numI l) with
 | true =>
  have hk : chk (numI l) = numI l := by unfold chk; rw [if_pos ⟨hn, hp⟩]
  rw [hk, if_neg (by omega)]; simp [hp, enc]
 | false =>
  have hk : chk (numI l) = -1 := by unfold chk; rw [if_neg (by rw [hp]; simp)]
  rw [hk, if_pos rfl]; simp [hp]
theorem bytes_eq (s : ByteArray) (l : List UInt8) (h : s.data.toList = l) : s = ⟨l.toArray⟩ := by
 subst h; rfl
theorem RI_one (w : World) (z : Int) : RI (w.alloc (.cells #[.int .i64 z] 3)) (some ⟨w.heap.size, 0, none⟩) [z] := fun _ =>
 ⟨w.heap.size, 0, rfl, by simp, fun j hj => by
  have : j = 0 := by simp at hj; omega
  subst this
  rw [World.cell?_alloc_at _ _ _ _ rfl]; rfl⟩
set_option maxRecDepth 100000 in
theorem named_any (s : ByteArray) (w : World) (hs : s.size ≤ 1000000) : Calls Tryz.prog 160 #[.string s] w (NamedOut s.data.toList w) := by
 by_cases h1 : s.data.toList = [97, 109, 112]
 ·obtain rfl := bytes_eq s _ h1
  clear h1
  go_enter Tryz.func160, Tryz.ntmps160
  go_wp2
  go_ret
  exact NamedOut.mk (r := [38]) (by decide +kernel) (Below.refl _ _)
 by_cases h2 : s.data.toList = [108, 116]
 ·obtain rfl := bytes_eq s _ h2
  clear h1 h2
  go_enter Tryz.func160, Tryz.ntmps160
  go_wp2
  go_ret
  exact NamedOut.mk (r := [60]) (by decide +kernel) (Below.refl _ _)
 by_cases h3 : s.data.toList = [103, 116]
 ·obtain rfl := bytes_eq s _ h3
  clear h1 h2 h3
  go_enter Tryz.func160, Tryz.ntmps160
  go_wp2
  go_ret
  exact NamedOut.mk (r := [62]) (by decide +kernel) (Below.refl _ _)
 by_cases h4 : s.data.toList = [113, 117, 111, 116]
 ·obtain rfl := bytes_eq s _ h4
  clear h1 h2 h3 h4
  go_enter Tryz.func160, Tryz.ntmps160
  go_wp2
  go_ret
  exact NamedOut.mk (r := [34]) (by decide +kernel) (Below.refl _ _)
 by_cases h5 : s.data.toList = [97, 112, 111, 115]
 ·obtain rfl := bytes_eq s _ h5
  clear h1 h2 h3 h4 h5
  go_enter Tryz.func160, Tryz.ntmps160
  go_wp2
  go_ret
  exact NamedOut.mk (r := [39]) (by decide +kernel) (Below.refl _ _)
 have HN := hid (nameP_num _ h1 h2 h3 h4 h5)
 rw [← Lib.toList_data] at h1 h2 h3 h4 h5
 have b1 : (s.toList == ([97, 109, 112] : List UInt8)) = false := by simpa using h1
 have b2 : (s.toList == ([108, 116] : List UInt8)) = false := by simpa using h2
 have b3 : (s.toList == ([103, 116] : List UInt8)) = false := by simpa using h3
 have b4 : (s.toList == ([113, 117, 111, 116] : List UInt8)) = false := by simpa using h4
 have b5 : (s.toList == ([97, 112, 111, 115] : List UInt8)) = false := by simpa using h5
 clear h1 h2 h3 h4 h5
 have hn := numbered_any s w hs
 have hbd := numI_bd s.data.toList
 by_cases hlt : numI s.data.toList < 1
 ·have HV := hid (namedL_low _ HN.out hlt)
  generalize numI s.data.toList = n at *
  go_enter Tryz.func160, Tryz.ntmps160
  go_wp2_with fail
  refine hn.mono ?_
  clear hn
  rintro e w' ⟨rfl, rfl⟩
  go_wp2
  go_ret
  exact NamedOut.mk (r := []) HV.out (Below.refl _ _)
 ·have hge : 1 ≤ numI s.data.toList := by omega
  have HV := hid (namedL_num _ HN.out hge)
  clear hlt
  generalize numI s.data.toList = n at *
  have hm := make_any (some ⟨w.heap.size, 0, none⟩) 1 [n] (w.alloc (.cells #[.int .i64 n] 3)) (by simp) (RI_one w n)
  rw [show [n].length = 1 from rfl] at hm
  unfold MakeOut at hm
  generalize (if [n].all isPt = true then enc [n] else []) = r at *
  generalize (if [n].all isPt = true then (0 : Int) else 2) = q at *
  go_enter Tryz.func160, Tryz.ntmps160
  go_wp2_with fail
  refine hn.mono ?_
  clear hn
  rintro e w' ⟨rfl, rfl⟩
  go_wp2_with fail
  refine hm.mono ?_
  clear hm
  rintro e w1 ⟨rfl, hb⟩
  go_wp2
  go_ret
  exact NamedOut.mk HV.out (((Below.refl _ w).alloc (Nat.le_refl _) _).trans (hb.mono (by simp)))
def refT (l : List UInt8) : List UInt8 := if (refQ l).1 < 0 then [38] else encodeRune (refQ l).1
def refW (l : List UInt8) : Nat := if (refQ l).1 < 0 then 0 else (refQ l).2 - 1
def RefOut (l : List UInt8) (w : World) (e : Ending) (w' : World) : Prop := e = .returned (.tuple #[.string ⟨(refT l).toArray⟩, .int .i64 (refW l)]) ∧ Below w.heap.size w w'
theorem RefOut.mk {l t : List UInt8} {n : Nat} {w w' : World} (h : refT l = t) (h2 : refW l = n) (hb : Below w.heap.size w w') : RefOut l w (.returned (.tuple #[.string ⟨t.toArray⟩, .int .i64 n])) w' := by subst h; subst h2; exact ⟨rfl, hb⟩
theorem ref_none (l : List UInt8) (h : (59 : UInt8) ∉ l.take 9) : refT l = [38] ∧ refW l = 0 := by
 unfold refT refW; rw [refQ_none l h]; exact ⟨rfl, rfl⟩
theorem nameP_neg (nm : List UInt8) : nameP nm = -1 ∨ 1 ≤ nameP nm := by
 unfold nameP
 repeat' split
 all_goals first | (exact .inl rfl) | (right; decide) | skip
 unfold chk
 split
 ·right; omega
 ·left; rfl
theorem ref_name (nm t : List UInt8) (h : (59 : UInt8) ∉ nm) : (namedL nm = [] ∧ refT (nm ++ 59 :: t) = [38] ∧ refW (nm ++ 59 :: t) = 0) ∨ (namedL nm ≠ [] ∧ refT (nm ++ 59 :: t) = namedL nm ∧ refW (nm ++ 59 :: t) = nm.length + 1) := by
 have hq := refQ_name nm t h
 unfold namedL refT refW
 rcases nameP_neg nm with e | e
 ·left; rw [hq, e]; exact ⟨rfl, rfl, rfl⟩
 ·right
  rw [if_neg (by omega)] at hq
  rw [hq, if_neg (by omega)]
  refine ⟨?_, ?_, ?_⟩
  ·intro hh; have := (encodeRune_length (nameP nm)).1; rw [hh] at this; simp at this
  ·rw [if_neg]; simp only; omega
  ·rw [if_neg]
   ·simp
   ·simp only; omega
theorem take_split (l : List UInt8) (i n : Nat) (c : UInt8) (h : l.take n = (l.take n).take i ++ c :: (l.take n).drop (i + 1)) (hi : i < n) : l = l.take i ++ c :: l.drop (i + 1) := by
 have e : (l.take n).take i = l.take i := by rw [List.take_take]; congr 1; omega
 have hl : i < (l.take n).length := by
  have := congrArg List.length h
  rw [List.length_append, List.length_cons, List.length_take (l := l.take n), List.length_drop] at this
  omega
 have hl2 : i < l.length := by rw [List.length_take] at hl; omega
 have hg : (l.take n)[i]? = some c := by
  rw [h, List.getElem?_append_right (by rw [List.length_take]; omega), List.length_take, Nat.min_eq_left (by omega)]; simp
 rw [List.getElem?_take_of_lt hi] at hg
 have hg2 : l[i] = c := by rw [List.getElem?_eq_getElem hl2] at hg; exact Option.some.inj hg
 have := List.drop_eq_getElem_cons hl2
 rw [hg2] at this
 rw [← this, List.take_append_drop]
set_option maxRecDepth 100000 in
theorem reference_any (s : ByteArray) (w : World) (hs : s.size ≤ 1000000) : Calls Tryz.prog 159 #[.string s] w (RefOut s.data.toList w) := by
 obtain ⟨m, hm⟩ : ∃ m : Nat, m = min s.size 9 := ⟨_, rfl⟩
 have hm1 : m ≤ s.size := by omega
 have hm2 : m ≤ 9 := by omega
 have hmin : min (s.size : Int) 9 = (m : Int) := by omega
 have HT := hid (show (s.extract 0 m).data.toList = s.data.toList.take 9 by
  rw [take_extract, hm, Nat.min_def]
  split
  ·rw [List.take_of_length_le (by rw [← size_list]; omega), List.take_of_length_le (by rw [← size_list]; omega)]
  ·rfl)
 have hts : (s.extract 0 m).size ≤ 9 := by simp; omega
 have hts2 : (s.extract 0 m).size ≤ s.size := by simp; omega
 clear hm
 generalize hti : s.extract 0 m = t at *
 rcases index_or t.data.toList 59 with hi | ⟨i, hi⟩
 ·have HV := hid (ref_none s.data.toList (by rw [← HT.out]; exact index_not hi))
  have hc := cut_go t 59 _ _ _ w (scut_no t 59 w hi)
  clear hi
  go_enter Tryz.func159, Tryz.ntmps159
  go_wp2_with fail
  refine hc.mono ?_
  clear hc
  rintro e w1 ⟨rfl, b1⟩
  go_wp2
  go_ret2
  exact RefOut.mk (t := [38]) (n := 0) HV.out.1 HV.out.2 b1
 ·have hc := cut_go t 59 _ _ _ w (scut_yes t 59 i w (by omega) hi)
  obtain ⟨i1, i2, i3⟩ := index_at hi
  have i4 : i < 9 := by omega
  rw [HT.out] at i2 i3
  have hsp := take_split s.data.toList i 9 59 i2 i4
  have i5 : (s.data.toList.take 9).take i = s.data.toList.take i := by rw [List.take_take]; congr 1; omega
  rw [i5] at i3
  have hr := ref_name (s.data.toList.take i) (s.data.toList.drop (i + 1)) i3
  rw [← hsp] at hr
  have hnm : (t.extract 0 i).data.toList = s.data.toList.take i := by rw [take_extract, HT.out, i5]
  have hln : (s.data.toList.take i).length = i := by rw [List.length_take, ← size_list]; omega
  have hna := fun W => named_any (t.extract 0 i) W (by simp; omega)
  rw [hnm] at hna
  rw [hln] at hr
  have hsz : (t.extract 0 i).size = i := by simp; omega
  have HSZ := hid hsz
  clear hi i2 i3 i5 hsp hnm hln hsz
  unfold NamedOut at hna
  generalize t.extract (i + 1) t.size = t2 at *
  generalize t.extract 0 i = t1 at *
  rcases hr with ⟨r1, r2, r3⟩ | ⟨r1, r2, r3⟩
  ·rw [r1] at hna
   have HV := hid r2
   have HW := hid r3
   clear r1 r2 r3
   go_enter Tryz.func159, Tryz.ntmps159
   go_wp2_with fail
   refine hc.mono ?_
   clear hc
   rintro e w1 ⟨rfl, b1⟩
   have hn1 := hna w1
   clear hna
   go_wp2_with fail
   refine hn1.mono ?_
   clear hn1
   rintro e w2 ⟨rfl, b2⟩
   go_wp2
   go_ret2
   exact RefOut.mk (t := [38]) (n := 0) HV.out HW.out (b1.trans (b2.mono b1.size))
  ·obtain ⟨tx, htx⟩ : ∃ tx : ByteArray, tx = ⟨(namedL (s.data.toList.take i)).toArray⟩ := ⟨_, rfl⟩
   rw [← htx] at hna
   have hne : (tx.toList == ([] : List UInt8)) = false := by rw [Lib.toList_data, htx]; simpa using r1
   have HV := hid (show refT s.data.toList = tx.data.toList by rw [r2, htx])
   have HW := hid r3
   clear r1 r2 r3 htx
   go_enter Tryz.func159, Tryz.ntmps159
   go_wp2_with fail
   refine hc.mono ?_
   clear hc
   rintro e w1 ⟨rfl, b1⟩
   have hn1 := hna w1
   clear hna
   go_wp2_with fail
   refine hn1.mono ?_
   clear hn1
   rintro e w2 ⟨rfl, b2⟩
   have hsz := HSZ.out
   go_wp2
   go_ret2
   exact RefOut.mk (t := tx.data.toList) (n := i + 1) HV.out HW.out (b1.trans (b2.mono b1.size))
theorem refW_le (l : List UInt8) : refW l ≤ l.length := by
 unfold refW
 split
 ·omega
 ·rename_i h
  rcases refQ_ok l with e | ⟨_, _, e, _⟩
  ·rw [e] at h; exact absurd (by decide) h
  ·omega
theorem refT_len (l : List UInt8) : (refT l).length ≤ 4 := by
 unfold refT
 split
 ·simp
 ·exact (encodeRune_length _).2
theorem unh_step (a r : List UInt8) (h : (38 : UInt8) ∉ a) : unh (a ++ 38 :: r) = a ++ (refT r ++ unh (r.drop (refW r))) := by
 rw [unh_pass _ _ h]
 congr 1
 unfold refT refW
 by_cases hh : (refQ r).1 < 0
 ·rw [if_pos hh, if_pos hh, unh_amp r hh]; rfl
 ·rw [if_neg hh, if_neg hh, unh_ref r hh]
theorem unh_end (a : List UInt8) (h : (38 : UInt8) ∉ a) : unh a = a := by
 have := unh_pass [] a h
 rw [List.append_nil, unh_nil, List.append_nil] at this
 exact this
theorem byteCells_str (a : List UInt8) (s : ByteArray) : byteCells a ++ Lib.strCells s = byteCells (a ++ s.data.toList) := by
 rw [Lib.strCells_eq, byteCells_append]
set_option maxRecDepth 100000 in
set_option maxHeartbeats 2000000 in
theorem unhtml_any (s : ByteArray) (w : World) (hs : s.size ≤ 1000000) : Calls Tryz.prog 157 #[.string s] w fun e w' => e = .returned (.string ⟨(unh s.data.toList).toArray⟩) ∧ Below w.heap.size w w' := by
 go_enter Tryz.func157, Tryz.ntmps157
 go_wp2
 go_loopw [0] (fun v wr => ∃ (r : ByteArray) (acc : List UInt8), v = .string r ∧ r.size ≤ 1000000 ∧ Lib.IsBuilderF 69 5 w.heap.size w.heap.size (byteCells acc) wr ∧ Below w.heap.size w wr ∧ w.heap.size < wr.heap.size ∧ acc.length + 4 * r.size ≤ 4000000 ∧ Hid (acc ++ unh r.data.toList = unh s.data.toList)) (fun v _ => strLen v)
 case atStart => exact ⟨s, [], rfl, hs, Lib.IsBuilderF.of (Lib.fresh_isBuilder 69 5 w), (Below.refl _ w).alloc (Nat.le_refl _) _, by simp, by simp; omega, by simp [Hid]⟩
 case round =>
  obtain ⟨r, acc, rfl, hr, hI, hbw, hbsz, hal, hac⟩ := hrel
  rcases index_or r.data.toList 38 with hi | ⟨i, hi⟩
  ·have hc := cut_go r 38 _ _ _ wr (scut_no r 38 wr hi)
   have HE := hid (unh_end r.data.toList (index_not hi))
   clear hi
   go_wp2_with fail
   refine hc.mono ?_
   clear hc
   rintro e w1 ⟨rfl, b1⟩
   have hz1 := b1.size
   have hw := sbWrite w.heap.size w.heap.size _ r w1 (bf_below hI b1) (by rw [Lib.byteCells_length]; omega) (by omega)
   rw [byteCells_str] at hw
   go_wp2_with fail
   refine hw.mono ?_
   clear hw
   rintro e w2 ⟨rfl, h2, b2, k2⟩
   have hz2 := b2.size
   have hss := sbString w.heap.size w.heap.size (acc ++ r.data.toList) w2 (Or.inr h2) (by omega)
   go_wp2_with fail
   refine hss.mono ?_
   clear hss
   rintro e w3 ⟨rfl, _, b3, _⟩
   go_wp2
   go_ret
   refine ⟨?_, ((hbw.trans (b1.mono (by omega))).trans b2).trans b3⟩
   rw [← hac.out, HE.out]
   rfl
  ·have hc := cut_go r 38 _ _ _ wr (scut_yes r 38 i wr hr hi)
   obtain ⟨i1, i2, i3⟩ := index_at hi
   have HB := hid (drop_extract r (i + 1))
   have HA := hid (take_extract r i)
   have HS := hid (unh_step _ (r.data.toList.drop (i + 1)) i3)
   rw [← i2, ← HB.out, ← HA.out] at HS
   have hbs : (r.extract (i + 1) r.size).size = r.size - (i + 1) := by simp
   have has : (r.extract 0 i).size = i := by simp; omega
   have HBS := hid hbs
   have HAS := hid has
   clear hi i2 i3 hbs has HB HA
   generalize r.extract (i + 1) r.size = rb at *
   generalize r.extract 0 i = ra at *
   have hrl := refW_le rb.data.toList
   rw [← size_list] at hrl
   have htl := refT_len rb.data.toList
   have hra := HAS.out
   have hrb := HBS.out
   have href := fun W => reference_any rb W (by omega)
   unfold RefOut at href
   obtain ⟨tx, htx⟩ : ∃ tx : ByteArray, tx = ⟨(refT rb.data.toList).toArray⟩ := ⟨_, rfl⟩
   have HTX := hid (show refT rb.data.toList = tx.data.toList by rw [htx])
   rw [← htx] at href
   rw [HTX.out, ← size_list] at htl
   clear htx
   have HD := hid (drop_extract rb (refW rb.data.toList))
   have hds : (rb.extract (refW rb.data.toList) rb.size).size = rb.size - refW rb.data.toList := by simp
   have HDS := hid hds
   clear hds
   generalize refW rb.data.toList = n at *
   have H2 := hid (show (acc ++ ra.data.toList ++ tx.data.toList) ++ unh (rb.extract n rb.size).data.toList = unh s.data.toList by
    rw [← hac.out, HS.out, HD.out, HTX.out]; simp)
   have hlr := size_list ra
   have hlt := size_list tx
   have HLR := hid hlr
   have HLT := hid hlt
   have HRA := hid hra
   have HRB := hid hrb
   have ha1 : ra.size ≤ i := by omega
   have ha2 : i ≤ ra.size := by omega
   have hb1 : rb.size + (i + 1) ≤ r.size := by omega
   clear hlr hlt hra hrb
   go_wp2_with fail
   refine hc.mono ?_
   clear hc
   rintro e w1 ⟨rfl, b1⟩
   have hz1 := b1.size
   have hw := sbWrite w.heap.size w.heap.size _ ra w1 (bf_below hI b1) (by rw [Lib.byteCells_length]; omega) (by omega)
   rw [byteCells_str] at hw
   go_wp2_with fail
   refine hw.mono ?_
   clear hw
   rintro e w2 ⟨rfl, h2, b2, k2⟩
   have hz2 := b2.size
   have hf := href w2
   clear href
   go_wp2_with fail
   refine hf.mono ?_
   clear hf
   rintro e w3 ⟨rfl, b3⟩
   have hz3 := b3.size
   have hI3 : Lib.IsBuilderF 69 5 w.heap.size w.heap.size (byteCells (acc ++ ra.data.toList)) w3 := bf_below (Or.inr h2) b3
   have hw := sbWrite w.heap.size w.heap.size _ tx w3 hI3 (by rw [Lib.byteCells_length, List.length_append, ← HLR.out]; omega) (by omega)
   rw [byteCells_str] at hw
   go_wp2_with fail
   refine hw.mono ?_
   clear hw
   rintro e w4 ⟨rfl, h4, b4, k4⟩
   have hz4 := b4.size
   go_wp2
   go_roundw
   case rel => exact ⟨rb.extract n rb.size, acc ++ ra.data.toList ++ tx.data.toList, rfl, by rw [HDS.out]; omega, Or.inr h4, (((hbw.trans (b1.mono (by omega))).trans b2).trans (b3.mono (by omega))).trans b4, by omega, by rw [List.length_append, List.length_append, ← HLR.out, ← HLT.out, HDS.out]; omega, H2⟩
   case measure => show (rb.extract n rb.size).size < r.size; rw [HDS.out]; omega
theorem piece (acc q : List Int) (l : List UInt8) (h : enc q = l) : byteCells (enc acc) ++ Lib.strCells ⟨l.toArray⟩ = byteCells (enc (acc ++ q)) := by
 rw [Lib.strCells_eq, enc_append, byteCells_append, h]
theorem hP_else (p : Int) (h1 : p ≠ 38) (h2 : p ≠ 60) (h3 : p ≠ 62) (h4 : p ≠ 34) (h5 : p ≠ 39) : hP p = [p] := by
 unfold hP; rw [if_neg h1, if_neg h2, if_neg h3, if_neg h4, if_neg h5]
set_option maxRecDepth 100000 in
set_option maxHeartbeats 4000000 in
theorem html_any (s : ByteArray) (w : World) (hs : s.size ≤ 1000000) : Calls Tryz.prog 67 #[.string s] w fun e w' => e = .returned (.string ⟨(enc (html ((pts s.data.toList).filter inXml))).toArray⟩) ∧ Below w.heap.size w w' := by
 have hp := fun W => plain_any s W hs
 have hL := pts_length_le s.data.toList
 rw [← size_list] at hL
 have hL2 := List.length_filter_le inXml (pts s.data.toList)
 have HP := hid (allPt_filter inXml (pts_allPt s.data.toList))
 generalize (pts s.data.toList).filter inXml = zs at *
 have hel := enc_length_le zs
 obtain ⟨t, ht⟩ : ∃ t : ByteArray, t = ⟨(enc zs).toArray⟩ := ⟨_, rfl⟩
 rw [← ht] at hp
 have HT := hid (show pts t.data.toList = zs by rw [ht]; exact pts_enc' zs HP.out)
 have hts : t.size ≤ 4000000 := by rw [size_list, ht]; simp; omega
 rw [← HT.out]
 clear ht hel hL2 hL HP HT
 go_enter Tryz.func67, Tryz.ntmps67
 go_wp2_with fail
 refine (hp _).mono ?_
 clear hp
 rintro e w1 ⟨rfl, b1⟩
 have hz1 : w.heap.size + 1 ≤ w1.heap.size := by have := b1.size; simp at this; omega
 have hI0 : Lib.IsBuilderF 69 5 w.heap.size w.heap.size (byteCells (enc [])) w1 := bf_below (Lib.IsBuilderF.of (Lib.fresh_isBuilder 69 5 w)) b1
 have B1 : Below w.heap.size w w1 := ((Below.refl _ w).alloc (Nat.le_refl _) _).trans (b1.mono (by simp))
 clear b1
 go_wp2
 go_loopw [] (fun wr => ∃ (k : Nat) (acc : List Int), k ≤ t.size ∧ Lib.IsBuilderF 69 5 w.heap.size w.heap.size (byteCells (enc acc)) wr ∧ wr.heap[w1.heap.size]? = some (.stringIter t k) ∧ Below w.heap.size w wr ∧ acc.length ≤ 6 * k ∧ Hid (acc ++ html (ptsFrom t k) = html (pts t.data.toList)))
  (fun wr => t.size - wr.iterPos w1.heap.size)
 case atStart => exact ⟨0, [], Nat.zero_le _, hI0.alloc _, World.iter_heap w1 t 0, B1.alloc (by omega) _, by simp, by simp [Hid, ptsFrom]⟩
 case round =>
  obtain ⟨k, acc, hk, hI, hit, hbw, hal, hac⟩ := hrel
  have hbsz : w1.heap.size < wr.heap.size := (Array.getElem?_eq_some_iff.1 hit).1
  by_cases hlt : k < t.size
  ·have hnx : ∀ ty, (Instr.next (.pointer (some ⟨w1.heap.size, 0, none⟩)) true ty).run Tryz.prog wr = _ := fun ty => Lib.run_next_any_at wr w1.heap.size t k ty hit hlt
   obtain ⟨hstep, hwd, hle, hru⟩ := ptsFrom_step t k hlt
   have hI2 := hI.iterAt hit (k + (Utf8.decode t k).2)
   have hit2 := Lib.iterAt_heap wr w1.heap.size t k (k + (Utf8.decode t k).2) hit
   have hbw2 := Lib.below_iterAt hbw (k := w1.heap.size) (by omega) t (k + (Utf8.decode t k).2)
   have hsz2 : w.heap.size ≤ (wr.iterAt w1.heap.size t (k + (Utf8.decode t k).2)).heap.size := by rw [Lib.iterAt_size]; omega
   have hm : t.size - (k + (Utf8.decode t k).2) < t.size - k := by omega
   have HIT0 := hid hit
   have hel := enc_length_le acc
   generalize Utf8.decode t k = d at *
   obtain ⟨p, n⟩ := d
   simp only at hwd hle hru hstep hnx hI2 hit2 hbw2 hsz2 hm
   generalize wr.iterAt w1.heap.size t (k + n) = wi at *
   have HIT := hid hit2
   clear hit2 hit hbw hI
   have H2 := hid (show (acc ++ hP (p : Int)) ++ html (ptsFrom t (k + n)) = html (pts t.data.toList) by rw [← hac.out, hstep, html_cons, List.append_assoc])
   clear hstep
   have hpl := hP_length (p : Int)
   by_cases c1 : (p : Int) = 38
   ·have b1 : ((p : Int) == 38) = true := by simpa using c1
    have HQ := hid (show enc (hP (p : Int)) = [38, 97, 109, 112, 59] by rw [c1]; decide +kernel)
    clear c1
    have hr := sbWrite w.heap.size w.heap.size (byteCells (enc acc)) ⟨#[38, 97, 109, 112, 59]⟩ _ hI2 (by rw [Lib.byteCells_length]; show _ + 5 ≤ _; omega) hsz2
    go_wp2_with fail
    refine hr.mono ?_
    clear hr
    rintro e W1 ⟨rfl, h1, b1', k1⟩
    go_wp2
    go_roundw
    case rel =>
     refine ⟨k + n, acc ++ hP (p : Int), hle, ?_, k1.iter HIT.out (by omega), hbw2.trans b1', by rw [List.length_append]; omega, H2⟩
     rw [← piece _ _ _ HQ.out]; exact Or.inr h1
    case measure => rw [iterPos_of (k1.iter HIT.out (by omega)), iterPos_of HIT0.out]; exact hm
   by_cases c2 : (p : Int) = 60
   ·have b2 : ((p : Int) == 60) = true := by simpa using c2
    have b1 : ((p : Int) == 38) = false := by simpa using c1
    have HQ := hid (show enc (hP (p : Int)) = [38, 108, 116, 59] by rw [c2]; decide +kernel)
    clear c1 c2
    have hr := sbWrite w.heap.size w.heap.size (byteCells (enc acc)) ⟨#[38, 108, 116, 59]⟩ _ hI2 (by rw [Lib.byteCells_length]; show _ + 4 ≤ _; omega) hsz2
    go_wp2_with fail
    refine hr.mono ?_
    clear hr
    rintro e W1 ⟨rfl, h1, b1', k1⟩
    go_wp2
    go_roundw
    case rel =>
     refine ⟨k + n, acc ++ hP (p : Int), hle, ?_, k1.iter HIT.out (by omega), hbw2.trans b1', by rw [List.length_append]; omega, H2⟩
     rw [← piece _ _ _ HQ.out]; exact Or.inr h1
    case measure => rw [iterPos_of (k1.iter HIT.out (by omega)), iterPos_of HIT0.out]; exact hm
   by_cases c3 : (p : Int) = 62
   ·have b3 : ((p : Int) == 62) = true := by simpa using c3
    have b1 : ((p : Int) == 38) = false := by simpa using c1
    have b2 : ((p : Int) == 60) = false := by simpa using c2
    have HQ := hid (show enc (hP (p : Int)) = [38, 103, 116, 59] by rw [c3]; decide +kernel)
    clear c1 c2 c3
    have hr := sbWrite w.heap.size w.heap.size (byteCells (enc acc)) ⟨#[38, 103, 116, 59]⟩ _ hI2 (by rw [Lib.byteCells_length]; show _ + 4 ≤ _; omega) hsz2
    go_wp2_with fail
    refine hr.mono ?_
    clear hr
    rintro e W1 ⟨rfl, h1, b1', k1⟩
    go_wp2
    go_roundw
    case rel =>
     refine ⟨k + n, acc ++ hP (p : Int), hle, ?_, k1.iter HIT.out (by omega), hbw2.trans b1', by rw [List.length_append]; omega, H2⟩
     rw [← piece _ _ _ HQ.out]; exact Or.inr h1
    case measure => rw [iterPos_of (k1.iter HIT.out (by omega)), iterPos_of HIT0.out]; exact hm
   by_cases c4 : (p : Int) = 34
   ·have b4 : ((p : Int) == 34) = true := by simpa using c4
    have b1 : ((p : Int) == 38) = false := by simpa using c1
    have b2 : ((p : Int) == 60) = false := by simpa using c2
    have b3 : ((p : Int) == 62) = false := by simpa using c3
    have HQ := hid (show enc (hP (p : Int)) = [38, 113, 117, 111, 116, 59] by rw [c4]; decide +kernel)
    clear c1 c2 c3 c4
    have hr := sbWrite w.heap.size w.heap.size (byteCells (enc acc)) ⟨#[38, 113, 117, 111, 116, 59]⟩ _ hI2 (by rw [Lib.byteCells_length]; show _ + 6 ≤ _; omega) hsz2
    go_wp2_with fail
    refine hr.mono ?_
    clear hr
    rintro e W1 ⟨rfl, h1, b1', k1⟩
    go_wp2
    go_roundw
    case rel =>
     refine ⟨k + n, acc ++ hP (p : Int), hle, ?_, k1.iter HIT.out (by omega), hbw2.trans b1', by rw [List.length_append]; omega, H2⟩
     rw [← piece _ _ _ HQ.out]; exact Or.inr h1
    case measure => rw [iterPos_of (k1.iter HIT.out (by omega)), iterPos_of HIT0.out]; exact hm
   by_cases c5 : (p : Int) = 39
   ·have b5 : ((p : Int) == 39) = true := by simpa using c5
    have b1 : ((p : Int) == 38) = false := by simpa using c1
    have b2 : ((p : Int) == 60) = false := by simpa using c2
    have b3 : ((p : Int) == 62) = false := by simpa using c3
    have b4 : ((p : Int) == 34) = false := by simpa using c4
    have HQ := hid (show enc (hP (p : Int)) = [38, 35, 51, 57, 59] by rw [c5]; decide +kernel)
    clear c1 c2 c3 c4 c5
    have hr := sbWrite w.heap.size w.heap.size (byteCells (enc acc)) ⟨#[38, 35, 51, 57, 59]⟩ _ hI2 (by rw [Lib.byteCells_length]; show _ + 5 ≤ _; omega) hsz2
    go_wp2_with fail
    refine hr.mono ?_
    clear hr
    rintro e W1 ⟨rfl, h1, b1', k1⟩
    go_wp2
    go_roundw
    case rel =>
     refine ⟨k + n, acc ++ hP (p : Int), hle, ?_, k1.iter HIT.out (by omega), hbw2.trans b1', by rw [List.length_append]; omega, H2⟩
     rw [← piece _ _ _ HQ.out]; exact Or.inr h1
    case measure => rw [iterPos_of (k1.iter HIT.out (by omega)), iterPos_of HIT0.out]; exact hm
   have b1 : ((p : Int) == 38) = false := by simpa using c1
   have b2 : ((p : Int) == 60) = false := by simpa using c2
   have b3 : ((p : Int) == 62) = false := by simpa using c3
   have b4 : ((p : Int) == 34) = false := by simpa using c4
   have b5 : ((p : Int) == 39) = false := by simpa using c5
   have HQ := hid (hP_else p c1 c2 c3 c4 c5)
   clear c1 c2 c3 c4 c5
   have hr := sbRune w.heap.size w.heap.size _ (p : Int) (by omega) (by omega) _ hI2 (by rw [Lib.byteCells_length]; omega) hsz2
   go_wp2_with fail
   refine hr.mono ?_
   clear hr
   rintro e W1 ⟨rfl, h1, b1', k1⟩
   go_wp2
   go_roundw
   case rel =>
    refine ⟨k + n, acc ++ hP (p : Int), hle, ?_, k1.iter HIT.out (by omega), hbw2.trans b1', by rw [List.length_append]; omega, H2⟩
    rw [HQ.out, ← byteCells_enc]; exact Or.inr h1
   case measure => rw [iterPos_of (k1.iter HIT.out (by omega)), iterPos_of HIT0.out]; exact hm
  ·have hnx : ∀ ty, (Instr.next (.pointer (some ⟨w1.heap.size, 0, none⟩)) true ty).run Tryz.prog wr = _ := fun ty => Lib.run_next_end_at wr w1.heap.size t k ty hit hlt
   have HE := hid (ptsFrom_end t k hlt)
   clear hit
   go_wp2_with fail
   refine (sbString w.heap.size w.heap.size (enc acc) _ hI (by omega)).mono ?_
   rintro e W1 ⟨rfl, _, b1, _⟩
   go_wp2
   go_ret
   have hq := hac.out
   rw [HE.out, html_nil, List.append_nil] at hq
   rw [← hq]
   exact ⟨rfl, hbw.trans b1⟩
def digB (base : Int) (c : UInt8) : Int := if digN c < base then digN c else -1
theorem digB_yes {base : Int} {c : UInt8} (h : isD base c = true) : digB base c = digN c := by
 simp [isD] at h; unfold digB; rw [if_pos h.2]
theorem digB_no {base : Int} {c : UInt8} (h : isD base c = false) : digB base c = -1 := by
 unfold digB
 split
 ·rename_i h2
  have hb := digN_bd c
  have : ¬ 0 ≤ digN c := fun h3 => by
   have : isD base c = true := by simp [isD, h2, h3]
   rw [this] at h; cases h
  omega
 ·rfl
set_option maxRecDepth 100000 in
theorem rdigit_any (c : UInt8) (base : Int) (w : World) (hb0 : 0 ≤ base) : Calls Tryz.prog 142 #[.int .u8 c.toNat, .int .i64 base] w fun e w' => e = .returned (.int .i64 (digB base c)) ∧ w = w' := by
 have hc : c.toNat < 256 := UInt8.toNat_lt c
 have fin : ∀ (x y : Int), digN c = x → (x < base ∧ y = x ∨ base ≤ x ∧ y = -1) → y = digB base c := by
  intro x y h1 h2
  unfold digB
  rw [h1]
  rcases h2 with ⟨h2, h3⟩ | ⟨h2, h3⟩
  ·rw [if_pos h2, h3]
  ·rw [if_neg (by omega), h3]
 have FIN := hid fin
 clear fin
 by_cases a : 48 ≤ c.toNat ∧ c.toNat ≤ 57
 ·have HD := hid (show digN c = (c.toNat : Int) - 48 by unfold digN; rw [if_pos a])
  obtain ⟨a1, a2⟩ := a
  by_cases hb : base ≤ (c.toNat : Int) - 48
  all_goals
   go_enter Tryz.func142, Tryz.ntmps142
   go_wp2
   go_ret
   exact ⟨ret_int (FIN.out _ _ HD.out (by omega)), rfl⟩
 by_cases b : 97 ≤ c.toNat ∧ c.toNat ≤ 102
 ·have HD := hid (show digN c = (c.toNat : Int) - 97 + 10 by unfold digN; rw [if_neg a, if_pos b]; omega)
  obtain ⟨b1, b2⟩ := b
  by_cases hb : base ≤ (c.toNat : Int) - 97 + 10
  all_goals
   go_enter Tryz.func142, Tryz.ntmps142
   go_wp2
   go_ret
   exact ⟨ret_int (FIN.out _ _ HD.out (by omega)), rfl⟩
 by_cases d : 65 ≤ c.toNat ∧ c.toNat ≤ 70
 ·have HD := hid (show digN c = (c.toNat : Int) - 65 + 10 by unfold digN; rw [if_neg a, if_neg b, if_pos d]; omega)
  obtain ⟨d1, d2⟩ := d
  by_cases hb : base ≤ (c.toNat : Int) - 65 + 10
  all_goals
   go_enter Tryz.func142, Tryz.ntmps142
   go_wp2
   go_ret
   exact ⟨ret_int (FIN.out _ _ HD.out (by omega)), rfl⟩
 ·have HD := hid (show digN c = -1 by unfold digN; rw [if_neg a, if_neg b, if_neg d])
  go_enter Tryz.func142, Tryz.ntmps142
  go_wp2
  all_goals first | (exfalso; omega) | (go_ret; exact ⟨ret_int (FIN.out _ _ HD.out (by omega)), rfl⟩)
theorem pre_short (p l : List UInt8) (h : l.length < p.length) : p.isPrefixOf l = false := by
 rw [Bool.eq_false_iff]
 intro hh
 have := (List.isPrefixOf_iff_prefix.1 hh).length_le
 omega
theorem pre_take (p l : List UInt8) : p.isPrefixOf l = (l.take p.length == p) := by
 rw [Bool.eq_iff_iff, List.isPrefixOf_iff_prefix, List.prefix_iff_eq_take, beq_iff_eq]
 exact eq_comm
set_option maxRecDepth 100000 in
theorem starts_any (s p : ByteArray) (w : World) : Calls Tryz.prog 127 #[.string s, .string p] w fun e w' => e = .returned (.bool (p.data.toList.isPrefixOf s.data.toList)) ∧ w = w' := by
 have HL := hid (size_list s)
 have HP := hid (size_list p)
 by_cases h : s.size < p.size
 ·have HV := hid (pre_short p.data.toList s.data.toList (by rw [← HL.out, ← HP.out]; exact h))
  have hd : decide (p.size ≤ s.size) = false := by simpa using h
  go_enter Tryz.func127, Tryz.ntmps127
  go_wp2
  all_goals first | (exfalso; omega) | (go_ret; exact ⟨ret_bool (by rw [HV.out]), rfl⟩)
 ·have hle : p.size ≤ s.size := by omega
  have hd : decide (p.size ≤ s.size) = true := by simpa using hle
  have HV := hid (show p.data.toList.isPrefixOf s.data.toList = ((s.extract 0 p.size).toList == p.toList) by
   rw [pre_take, Lib.toList_data, Lib.toList_data, take_extract, HP.out])
  clear h
  generalize p.data.toList.isPrefixOf s.data.toList = q at *
  go_enter Tryz.func127, Tryz.ntmps127
  go_wp2
  all_goals first | (exfalso; omega) | (go_ret; exact ⟨ret_bool (by rw [HV.out]), rfl⟩)
theorem digs_stop (base : Int) (m : Nat) (l : List UInt8) (k : Nat) (hk : k ≤ l.length) (hm : k ≤ m) (hall : (l.take k).all (isD base) = true) (hend : k = l.length ∨ k = m ∨ ∃ c, l[k]? = some c ∧ isD base c = false) : digs base m l = l.take k := by
 unfold digs
 have e : l.take m = l.take k ++ (l.take m).drop k := by
  have h := (List.take_append_drop k (l.take m)).symm
  rw [List.take_take, Nat.min_eq_left hm] at h
  exact h
 rw [e, List.takeWhile_append_of_pos (fun c hc => List.all_eq_true.1 hall c hc)]
 have : ((l.take m).drop k).takeWhile (isD base) = [] := by
  rcases hend with h | h | ⟨c, h1, h2⟩
  ·rw [List.drop_of_length_le (by rw [List.length_take]; omega)]; rfl
  ·rw [List.drop_of_length_le (by rw [List.length_take]; omega)]; rfl
  ·by_cases hkm : k = m
   ·rw [List.drop_of_length_le (by rw [List.length_take]; omega)]; rfl
   ·have hg : (l.take m)[k]? = some c := by rw [List.getElem?_take_of_lt (by omega)]; exact h1
    obtain ⟨hlt, hgv⟩ := List.getElem?_eq_some_iff.1 hg
    rw [List.drop_eq_getElem_cons hlt, hgv, List.takeWhile_cons, h2]
    rfl
 rw [this, List.append_nil]
def NumOut (base : Int) (m : Nat) (l : List UInt8) (w : World) (e : Ending) (w' : World) : Prop := e = .returned (.tuple #[.int .i64 (valD base (digs base m l)), .int .i64 (digs base m l).length]) ∧ w = w'
theorem NumOut.mk {base : Int} {m k : Nat} {l : List UInt8} {w : World} (h : digs base m l = l.take k) (hk : k ≤ l.length) : NumOut base m l w (.returned (.tuple #[.int .i64 (valD base (l.take k)), .int .i64 k])) w := by
 unfold NumOut; rw [h, List.length_take, Nat.min_eq_left hk]; exact ⟨rfl, rfl⟩
set_option maxRecDepth 100000 in
set_option maxHeartbeats 1000000 in
theorem rnumber16_any (s : ByteArray) (m : Nat) (w : World) (hs : s.size ≤ 1000000) (hm : m ≤ 7) : Calls Tryz.prog 128 #[.string s, .int .i64 16, .int .i64 m] w (NumOut 16 m s.data.toList w) := by
 have HL := hid (size_list s)
 go_enter Tryz.func128, Tryz.ntmps128
 go_wp2
 go_loop [8, 9] (fun n i => ∃ k : Nat, k ≤ s.size ∧ k ≤ m ∧ i = .int .i64 k ∧ n = .int .i64 (valD 16 (s.data.toList.take k)) ∧ Hid ((s.data.toList.take k).all (isD 16) = true)) (fun _ i => s.size - (RowKit.intOf i).toNat)
 case atStart => exact ⟨0, Nat.zero_le _, Nat.zero_le _, rfl, rfl, by simp [Hid]⟩
 case round =>
  obtain ⟨k, hk, hkm, rfl, rfl, hall⟩ := hrel
  have hbd := valD_bd 16 (by omega) (by omega) (s.data.toList.take k) (by rw [List.length_take]; omega) hall.out
  by_cases hlt : k < s.size
  ·have dlt : decide (k < s.size) = true := by simpa using hlt
   by_cases hlm : k < m
   ·have dlm : decide (k < m) = true := by simpa using hlm
    have HT := hid (take_snoc s k hlt)
    have HS := hid (valD_snoc 16 (s.data.toList.take k) s[k])
    have HG := hid (getE? s k hlt)
    have hdb := digN_bd s[k]
    have hdg := rdigit_any s[k] 16 w (by omega)
    cases hd : isD 16 s[k] with
    | true =>
     rw [digB_yes hd] at hdg
     have hd0 : 0 ≤ digN s[k] := by simp [isD] at hd; exact hd.1
     have HD := hid hd
     clear hd
     generalize valD 16 (s.data.toList.take k) = v at *
     generalize digN s[k] = q at *
     have hcm := hid (Int.mul_comm 16 v)
     go_wp2_with fail
     refine hdg.mono ?_
     rintro e w' ⟨rfl, rfl⟩
     go_wp2_with fail
     refine hdg.mono ?_
     clear hdg
     rintro e w' ⟨rfl, rfl⟩
     go_wp2
     go_round
     case rel => exact ⟨k + 1, by omega, by omega, by go_num, by rw [HT.out, HS.out, ← hcm.out], by show _ = true; rw [HT.out, List.all_append, hall.out]; simp [HD.out]⟩
     case measure => simp [RowKit.intOf]; omega
    | false =>
     rw [digB_no hd] at hdg
     have HV := hid (digs_stop 16 m s.data.toList k (by rw [← HL.out]; omega) hkm hall.out (.inr (.inr ⟨s[k], HG.out, hd⟩)))
     clear hd
     go_wp2_with fail
     refine hdg.mono ?_
     clear hdg
     rintro e w' ⟨rfl, rfl⟩
     go_wp2
     go_ret2
     exact NumOut.mk HV.out (by rw [← HL.out]; omega)
   ·have dlm : decide (k < m) = false := by simpa using hlm
    have HV := hid (digs_stop 16 m s.data.toList k (by rw [← HL.out]; omega) hkm hall.out (.inr (.inl (by omega))))
    go_wp2
    all_goals first | (exfalso; omega) | (go_ret2; exact NumOut.mk HV.out (by rw [← HL.out]; omega))
  ·have dlt : decide (k < s.size) = false := by simpa using hlt
   have HV := hid (digs_stop 16 m s.data.toList k (by rw [← HL.out]; omega) hkm hall.out (.inl (by rw [← HL.out]; omega)))
   go_wp2
   all_goals first | (exfalso; omega) | (go_ret2; exact NumOut.mk HV.out (by rw [← HL.out]; omega))
set_option maxRecDepth 100000 in
set_option maxHeartbeats 1000000 in
theorem rnumber10_any (s : ByteArray) (m : Nat) (w : World) (hs : s.size ≤ 1000000) (hm : m ≤ 7) : Calls Tryz.prog 128 #[.string s, .int .i64 10, .int .i64 m] w (NumOut 10 m s.data.toList w) := by
 have HL := hid (size_list s)
 go_enter Tryz.func128, Tryz.ntmps128
 go_wp2
 go_loop [8, 9] (fun n i => ∃ k : Nat, k ≤ s.size ∧ k ≤ m ∧ i = .int .i64 k ∧ n = .int .i64 (valD 10 (s.data.toList.take k)) ∧ Hid ((s.data.toList.take k).all (isD 10) = true)) (fun _ i => s.size - (RowKit.intOf i).toNat)
 case atStart => exact ⟨0, Nat.zero_le _, Nat.zero_le _, rfl, rfl, by simp [Hid]⟩
 case round =>
  obtain ⟨k, hk, hkm, rfl, rfl, hall⟩ := hrel
  have hbd := valD_bd 10 (by omega) (by omega) (s.data.toList.take k) (by rw [List.length_take]; omega) hall.out
  by_cases hlt : k < s.size
  ·have dlt : decide (k < s.size) = true := by simpa using hlt
   by_cases hlm : k < m
   ·have dlm : decide (k < m) = true := by simpa using hlm
    have HT := hid (take_snoc s k hlt)
    have HS := hid (valD_snoc 10 (s.data.toList.take k) s[k])
    have HG := hid (getE? s k hlt)
    have hdb := digN_bd s[k]
    have hdg := rdigit_any s[k] 10 w (by omega)
    cases hd : isD 10 s[k] with
    | true =>
     rw [digB_yes hd] at hdg
     have hd0 : 0 ≤ digN s[k] := by simp [isD] at hd; exact hd.1
     have HD := hid hd
     clear hd
     generalize valD 10 (s.data.toList.take k) = v at *
     generalize digN s[k] = q at *
     have hcm := hid (Int.mul_comm 10 v)
     go_wp2_with fail
     refine hdg.mono ?_
     rintro e w' ⟨rfl, rfl⟩
     go_wp2_with fail
     refine hdg.mono ?_
     clear hdg
     rintro e w' ⟨rfl, rfl⟩
     go_wp2
     go_round
     case rel => exact ⟨k + 1, by omega, by omega, by go_num, by rw [HT.out, HS.out, ← hcm.out], by show _ = true; rw [HT.out, List.all_append, hall.out]; simp [HD.out]⟩
     case measure => simp [RowKit.intOf]; omega
    | false =>
     rw [digB_no hd] at hdg
     have HV := hid (digs_stop 10 m s.data.toList k (by rw [← HL.out]; omega) hkm hall.out (.inr (.inr ⟨s[k], HG.out, hd⟩)))
     clear hd
     go_wp2_with fail
     refine hdg.mono ?_
     clear hdg
     rintro e w' ⟨rfl, rfl⟩
     go_wp2
     go_ret2
     exact NumOut.mk HV.out (by rw [← HL.out]; omega)
   ·have dlm : decide (k < m) = false := by simpa using hlm
    have HV := hid (digs_stop 10 m s.data.toList k (by rw [← HL.out]; omega) hkm hall.out (.inr (.inl (by omega))))
    go_wp2
    all_goals first | (exfalso; omega) | (go_ret2; exact NumOut.mk HV.out (by rw [← HL.out]; omega))
  ·have dlt : decide (k < s.size) = false := by simpa using hlt
   have HV := hid (digs_stop 10 m s.data.toList k (by rw [← HL.out]; omega) hkm hall.out (.inl (by rw [← HL.out]; omega)))
   go_wp2
   all_goals first | (exfalso; omega) | (go_ret2; exact NumOut.mk HV.out (by rw [← HL.out]; omega))
def RQ (q : Int × Nat) (w : World) (e : Ending) (w' : World) : Prop := e = .returned (.tuple #[.int .i64 q.1, .int .i64 q.2]) ∧ Below w.heap.size w w'
theorem RQ.mk {q : Int × Nat} {p : Int} {n : Nat} {w w' : World} (h : q = (p, n)) (hb : Below w.heap.size w w') : RQ q w (.returned (.tuple #[.int .i64 p, .int .i64 n])) w' := by subst h; exact ⟨rfl, hb⟩
theorem RQ.mkI {q : Int × Nat} {p x : Int} {n : Nat} {w w' : World} (h : q = (p, n)) (hx : x = n) (hb : Below w.heap.size w w') : RQ q w (.returned (.tuple #[.int .i64 p, .int .i64 x])) w' := by subst h; subst hx; exact ⟨rfl, hb⟩
theorem RQ.mkP {q : Int × Nat} {p x : Int} {n : Nat} {w w' : World} (h : q = (p, n)) (hx : x = p) (hb : Below w.heap.size w w') : RQ q w (.returned (.tuple #[.int .i64 x, .int .i64 n])) w' := by subst h; subst hx; exact ⟨rfl, hb⟩
theorem valD_len (base : Int) (m : Nat) (l : List UInt8) (h0 : 0 ≤ base) (h1 : base ≤ 16) (hm : m ≤ 7) : 0 ≤ valD base (digs base m l) ∧ valD base (digs base m l) ≤ 268435455 :=
 valD_bd base h0 h1 _ (by have := (digs_length base m l).1; omega) (List.all_eq_true.2 (digs_all base m l))
theorem fin_bad (r : List UInt8) (a k : Nat) (p : Int) (h : k = 0 ∨ r[a + k]? ≠ some 59 ∨ p = 0 ∨ isPt p = false) : fin r a k p = (-1, 0) := by
 unfold fin
 rw [if_neg]
 rintro ⟨h1, h2, h3, h4⟩
 rcases h with h | h | h | h
 ·exact h1 h
 ·exact h h2
 ·exact h3 h
 ·rw [h] at h4; cases h4
theorem fin_good (r : List UInt8) (a k : Nat) (p : Int) (h1 : k ≠ 0) (h2 : r[a + k]? = some 59) (h3 : p ≠ 0) (h4 : isPt p = true) : fin r a k p = (p, a + k + 2) := by
 unfold fin; rw [if_pos ⟨h1, h2, h3, h4⟩]
theorem pre38 (x r : List UInt8) : (38 :: x).isPrefixOf (38 :: r) = x.isPrefixOf r := by simp [List.isPrefixOf]
theorem starts_at (s : ByteArray) (r : List UInt8) (hr : s.data.toList = 38 :: r) (x : List UInt8) (b : Bool) (hb : x.isPrefixOf r = b) (w : World) : Calls Tryz.prog 127 #[.string s, .string ⟨(38 :: x).toArray⟩] w fun e w' => e = .returned (.bool b) ∧ w = w' := by
 have h := starts_any s ⟨(38 :: x).toArray⟩ w
 rw [show (⟨(38 :: x).toArray⟩ : ByteArray).data.toList = 38 :: x from rfl, hr, pre38, hb] at h
 exact h
def refBy (r : List UInt8) (q1 q2 q3 q4 q5 q6 q7 q8 : Bool) : Int × Nat :=
 if q1 = true then (38, 5) else if q2 = true then (60, 4) else if q3 = true then (62, 4) else if q4 = true then (34, 6) else if q5 = true then (39, 6)
 else if q6 = true ∨ q7 = true then fin r 2 (digs 16 6 (r.drop 2)).length (valD 16 (digs 16 6 (r.drop 2)))
 else if q8 = true then fin r 1 (digs 10 7 (r.drop 1)).length (valD 10 (digs 10 7 (r.drop 1))) else (-1, 0)
theorem refQ_by (r : List UInt8) : refQ r = refBy r ([97, 109, 112, 59].isPrefixOf r) ([108, 116, 59].isPrefixOf r) ([103, 116, 59].isPrefixOf r) ([113, 117, 111, 116, 59].isPrefixOf r) ([97, 112, 111, 115, 59].isPrefixOf r) ([35, 120].isPrefixOf r) ([35, 88].isPrefixOf r) ([35].isPrefixOf r) := rfl
theorem pre_len {x r : List UInt8} (h : x.isPrefixOf r = true) : x.length ≤ r.length := (List.isPrefixOf_iff_prefix.1 h).length_le
set_option maxRecDepth 100000 in
set_option maxHeartbeats 8000000 in
theorem rref_any (s : ByteArray) (r : List UInt8) (w : World) (hs : s.size ≤ 1000000) (hr : s.data.toList = 38 :: r) : Calls Tryz.prog 108 #[.string s] w (RQ (refQ r) w) := by
 have hq := refQ_by r
 have HR := hid hr
 have hsz : s.size = r.length + 1 := by rw [size_list, hr]; rfl
 have hlen : r.length + 1 ≤ s.size := by omega
 have hlen2 : s.size ≤ r.length + 1 := by omega
 clear hsz hr
 obtain ⟨q1, e1⟩ : ∃ b, ([97, 109, 112, 59] : List UInt8).isPrefixOf r = b := ⟨_, rfl⟩
 have t1 := fun W => starts_at s r HR.out [97, 109, 112, 59] q1 e1 W
 obtain ⟨q2, e2⟩ : ∃ b, ([108, 116, 59] : List UInt8).isPrefixOf r = b := ⟨_, rfl⟩
 have t2 := fun W => starts_at s r HR.out [108, 116, 59] q2 e2 W
 obtain ⟨q3, e3⟩ : ∃ b, ([103, 116, 59] : List UInt8).isPrefixOf r = b := ⟨_, rfl⟩
 have t3 := fun W => starts_at s r HR.out [103, 116, 59] q3 e3 W
 obtain ⟨q4, e4⟩ : ∃ b, ([113, 117, 111, 116, 59] : List UInt8).isPrefixOf r = b := ⟨_, rfl⟩
 have t4 := fun W => starts_at s r HR.out [113, 117, 111, 116, 59] q4 e4 W
 obtain ⟨q5, e5⟩ : ∃ b, ([97, 112, 111, 115, 59] : List UInt8).isPrefixOf r = b := ⟨_, rfl⟩
 have t5 := fun W => starts_at s r HR.out [97, 112, 111, 115, 59] q5 e5 W
 obtain ⟨q6, e6⟩ : ∃ b, ([35, 120] : List UInt8).isPrefixOf r = b := ⟨_, rfl⟩
 have t6 := fun W => starts_at s r HR.out [35, 120] q6 e6 W
 obtain ⟨q7, e7⟩ : ∃ b, ([35, 88] : List UInt8).isPrefixOf r = b := ⟨_, rfl⟩
 have t7 := fun W => starts_at s r HR.out [35, 88] q7 e7 W
 obtain ⟨q8, e8⟩ : ∃ b, ([35] : List UInt8).isPrefixOf r = b := ⟨_, rfl⟩
 have t8 := fun W => starts_at s r HR.out [35] q8 e8 W
 rw [e1, e2, e3, e4, e5, e6, e7, e8] at hq
 have l6 : q6 = true → 2 ≤ r.length := fun h => pre_len (x := [35, 120]) (e6.trans h)
 have l7 : q7 = true → 2 ≤ r.length := fun h => pre_len (x := [35, 88]) (e7.trans h)
 have l8 : q8 = true → 1 ≤ r.length := fun h => pre_len (x := [35]) (e8.trans h)
 have L6 := hid l6
 have L7 := hid l7
 have L8 := hid l8
 clear l6 l7 l8 e1 e2 e3 e4 e5 e6 e7 e8
 generalize refQ r = q0 at *
 have HQ := hid hq
 clear hq
 go_enter Tryz.func108, Tryz.ntmps108
 go_wp2
 go_loop [13] (fun i => ∃ x : Int, i = .int .i64 x ∧ (x = 0 ∨ x = 1 ∧ q1 = false ∨ x = 2 ∧ q1 = false ∧ q2 = false ∨ x = 3 ∧ q1 = false ∧ q2 = false ∧ q3 = false ∨ x = 4 ∧ q1 = false ∧ q2 = false ∧ q3 = false ∧ q4 = false ∨ x = 5 ∧ q1 = false ∧ q2 = false ∧ q3 = false ∧ q4 = false ∧ q5 = false)) (fun i => (5 - RowKit.intOf i).toNat)
 case atStart => exact ⟨0, rfl, .inl rfl⟩
 case round =>
  obtain ⟨x, rfl, hx⟩ := hrel
  have B1 : Below w.heap.size w (w.alloc (.cells #[.string ⟨#[38, 97, 109, 112, 59]⟩, .string ⟨#[38, 108, 116, 59]⟩, .string ⟨#[38, 103, 116, 59]⟩, .string ⟨#[38, 113, 117, 111, 116, 59]⟩, .string ⟨#[38, 97, 112, 111, 115, 59]⟩] 9)) := (Below.refl _ w).alloc (Nat.le_refl _) _
  rcases hx with rfl | ⟨rfl, rfl⟩ | ⟨rfl, rfl, rfl⟩ | ⟨rfl, rfl, rfl, rfl⟩ | ⟨rfl, rfl, rfl, rfl, rfl⟩ | ⟨rfl, rfl, rfl, rfl, rfl, rfl⟩
  ·cases q1 with
   | true =>
    go_wp2_with fail
    refine (t1 _).mono ?_
    rintro e w' ⟨rfl, rfl⟩
    go_wp2
    go_ret2
    exact RQ.mkP (p := 38) (n := 5) (by rw [HQ.out]; rfl) (by decide +kernel) B1
   | false =>
    go_wp2_with fail
    refine (t1 _).mono ?_
    rintro e w' ⟨rfl, rfl⟩
    go_wp2
    go_round
    case rel => exact ⟨1, rfl, by simp⟩
    case measure => simp [RowKit.intOf]
  ·cases q2 with
   | true =>
    go_wp2_with fail
    refine (t2 _).mono ?_
    rintro e w' ⟨rfl, rfl⟩
    go_wp2
    go_ret2
    exact RQ.mkP (p := 60) (n := 4) (by rw [HQ.out]; rfl) (by decide +kernel) B1
   | false =>
    go_wp2_with fail
    refine (t2 _).mono ?_
    rintro e w' ⟨rfl, rfl⟩
    go_wp2
    go_round
    case rel => exact ⟨2, rfl, by simp⟩
    case measure => simp [RowKit.intOf]
  ·cases q3 with
   | true =>
    go_wp2_with fail
    refine (t3 _).mono ?_
    rintro e w' ⟨rfl, rfl⟩
    go_wp2
    go_ret2
    exact RQ.mkP (p := 62) (n := 4) (by rw [HQ.out]; rfl) (by decide +kernel) B1
   | false =>
    go_wp2_with fail
    refine (t3 _).mono ?_
    rintro e w' ⟨rfl, rfl⟩
    go_wp2
    go_round
    case rel => exact ⟨3, rfl, by simp⟩
    case measure => simp [RowKit.intOf]
  ·cases q4 with
   | true =>
    go_wp2_with fail
    refine (t4 _).mono ?_
    rintro e w' ⟨rfl, rfl⟩
    go_wp2
    go_ret2
    exact RQ.mkP (p := 34) (n := 6) (by rw [HQ.out]; rfl) (by decide +kernel) B1
   | false =>
    go_wp2_with fail
    refine (t4 _).mono ?_
    rintro e w' ⟨rfl, rfl⟩
    go_wp2
    go_round
    case rel => exact ⟨4, rfl, by simp⟩
    case measure => simp [RowKit.intOf]
  ·cases q5 with
   | true =>
    go_wp2_with fail
    refine (t5 _).mono ?_
    rintro e w' ⟨rfl, rfl⟩
    go_wp2
    go_ret2
    exact RQ.mkP (p := 39) (n := 6) (by rw [HQ.out]; rfl) (by decide +kernel) B1
   | false =>
    go_wp2_with fail
    refine (t5 _).mono ?_
    rintro e w' ⟨rfl, rfl⟩
    go_wp2
    go_round
    case rel => exact ⟨5, rfl, by simp⟩
    case measure => simp [RowKit.intOf]
  ·cases q6 with
   | true =>
    have hl := L6.out rfl
    have hn := fun W => rnumber16_any (s.extract 3 s.size) 6 W (by simp; omega) (by omega)
    unfold NumOut at hn
    rw [drop_extract, HR.out, List.drop_succ_cons] at hn
    have hv := valD_len 16 6 (r.drop 2) (by omega) (by omega) (by omega)
    have hk := digs_length 16 6 (r.drop 2)
    rw [List.length_drop] at hk
    have HF := hid (show q0 = fin r 2 (digs 16 6 (r.drop 2)).length (valD 16 (digs 16 6 (r.drop 2))) by rw [HQ.out]; rfl)
    generalize valD 16 (digs 16 6 (r.drop 2)) = p at *
    generalize (digs 16 6 (r.drop 2)).length = n at *
    obtain ⟨v0, v1⟩ := hv
    obtain ⟨k1, k2⟩ := hk
    by_cases c1 : n = 0
    ·have HB := hid (HF.out.trans (fin_bad r 2 n p (.inl c1)))
     have b1 : ((n : Int) == 0) = true := by rw [beq_iff_eq]; omega
     clear c1
     go_wp2_with fail
     refine (t6 _).mono ?_
     rintro e w' ⟨rfl, rfl⟩
     go_wp2_with fail
     refine (hn _).mono ?_
     rintro e w' ⟨rfl, rfl⟩
     go_wp2
     go_ret2
     exact RQ.mk HB.out B1
    have b1 : ((n : Int) == 0) = false := by rw [beq_eq_false_iff_ne]; omega
    obtain ⟨m, hm⟩ : ∃ m : Nat, m = 3 + n := ⟨_, rfl⟩
    have hix : (3 : Int) + (n : Int) = (m : Int) := by omega
    have HM := hid hm
    have m1 : 3 + n ≤ m := by omega
    have m2 : m ≤ 3 + n := by omega
    have HG := hid (show r[2 + n]? = s.data.toList[m]? by rw [HR.out, hm, show 3 + n = (2 + n) + 1 by omega, List.getElem?_cons_succ])
    clear hm
    by_cases c2 : s.size ≤ m
    ·have HB := hid (HF.out.trans (fin_bad r 2 n p (.inr (.inl (by rw [HG.out, List.getElem?_eq_none (by rw [← size_list]; exact c2)]; simp)))))
     clear c1 k2
     go_wp2_with fail
     refine (t6 _).mono ?_
     rintro e w' ⟨rfl, rfl⟩
     go_wp2_with fail
     refine (hn _).mono ?_
     rintro e w' ⟨rfl, rfl⟩
     go_wp2
     go_ret2
     exact RQ.mk HB.out B1
    have c3 : m < s.size := by omega
    clear c2
    by_cases c4 : s[m] ≠ 59
    ·have HB := hid (HF.out.trans (fin_bad r 2 n p (.inr (.inl (by rw [HG.out, getE? s m c3]; simpa using c4)))))
     have b2 : ((s[m].toNat : Int) != 59) = true := by rw [bne_iff_ne]; intro h; exact u8_ne _ _ c4 (by show _ = 59; omega)
     clear c1 c4 k2
     go_wp2_with fail
     refine (t6 _).mono ?_
     rintro e w' ⟨rfl, rfl⟩
     go_wp2_with fail
     refine (hn _).mono ?_
     rintro e w' ⟨rfl, rfl⟩
     go_wp2
     go_ret2
     exact RQ.mk HB.out B1
    have c4 := Decidable.not_not.1 c4
    have b2 : ((s[m].toNat : Int) != 59) = false := by rw [c4]; decide
    have G59 := hid (show r[2 + n]? = some 59 by rw [HG.out, getE? s m c3, c4])
    clear c4
    by_cases c5 : p = 0
    ·have HB := hid (HF.out.trans (fin_bad r 2 n p (.inr (.inr (.inl c5)))))
     have b3 : (p == 0) = true := by rw [beq_iff_eq]; exact c5
     clear c1 c5 k2
     go_wp2_with fail
     refine (t6 _).mono ?_
     rintro e w' ⟨rfl, rfl⟩
     go_wp2_with fail
     refine (hn _).mono ?_
     rintro e w' ⟨rfl, rfl⟩
     go_wp2
     go_ret2
     exact RQ.mk HB.out B1
    have b3 : (p == 0) = false := by rw [beq_eq_false_iff_ne]; exact c5
    have hi := is_any p (w.alloc (.cells #[.string ⟨#[38, 97, 109, 112, 59]⟩, .string ⟨#[38, 108, 116, 59]⟩, .string ⟨#[38, 103, 116, 59]⟩, .string ⟨#[38, 113, 117, 111, 116, 59]⟩, .string ⟨#[38, 97, 112, 111, 115, 59]⟩] 9))
    cases c6 : isPt p with
    | false =>
     rw [c6] at hi
     have HB := hid (HF.out.trans (fin_bad r 2 n p (.inr (.inr (.inr c6)))))
     clear c1 c5 c6 k2
     go_wp2_with fail
     refine (t6 _).mono ?_
     rintro e w' ⟨rfl, rfl⟩
     go_wp2_with fail
     refine (hn _).mono ?_
     rintro e w' ⟨rfl, rfl⟩
     go_wp2_with fail
     refine hi.mono ?_
     rintro e w' ⟨rfl, rfl⟩
     go_wp2
     go_ret2
     exact RQ.mk HB.out B1
    | true =>
     rw [c6] at hi
     have HB := hid (HF.out.trans (fin_good r 2 n p c1 G59.out c5 c6))
     clear c1 c5 c6 k2
     go_wp2_with fail
     refine (t6 _).mono ?_
     rintro e w' ⟨rfl, rfl⟩
     go_wp2_with fail
     refine (hn _).mono ?_
     rintro e w' ⟨rfl, rfl⟩
     go_wp2_with fail
     refine hi.mono ?_
     rintro e w' ⟨rfl, rfl⟩
     go_wp2
     go_ret2
     exact RQ.mkI HB.out (by have := HM.out; omega) B1
   | false =>
    cases q7 with
    | true =>
     have hl := L7.out rfl
     have hn := fun W => rnumber16_any (s.extract 3 s.size) 6 W (by simp; omega) (by omega)
     unfold NumOut at hn
     rw [drop_extract, HR.out, List.drop_succ_cons] at hn
     have hv := valD_len 16 6 (r.drop 2) (by omega) (by omega) (by omega)
     have hk := digs_length 16 6 (r.drop 2)
     rw [List.length_drop] at hk
     have HF := hid (show q0 = fin r 2 (digs 16 6 (r.drop 2)).length (valD 16 (digs 16 6 (r.drop 2))) by rw [HQ.out]; rfl)
     generalize valD 16 (digs 16 6 (r.drop 2)) = p at *
     generalize (digs 16 6 (r.drop 2)).length = n at *
     obtain ⟨v0, v1⟩ := hv
     obtain ⟨k1, k2⟩ := hk
     by_cases c1 : n = 0
     ·have HB := hid (HF.out.trans (fin_bad r 2 n p (.inl c1)))
      have b1 : ((n : Int) == 0) = true := by rw [beq_iff_eq]; omega
      clear c1
      go_wp2_with fail
      refine (t6 _).mono ?_
      rintro e w' ⟨rfl, rfl⟩
      go_wp2_with fail
      refine (t7 _).mono ?_
      rintro e w' ⟨rfl, rfl⟩
      go_wp2_with fail
      refine (hn _).mono ?_
      rintro e w' ⟨rfl, rfl⟩
      go_wp2
      go_ret2
      exact RQ.mk HB.out B1
     have b1 : ((n : Int) == 0) = false := by rw [beq_eq_false_iff_ne]; omega
     obtain ⟨m, hm⟩ : ∃ m : Nat, m = 3 + n := ⟨_, rfl⟩
     have hix : (3 : Int) + (n : Int) = (m : Int) := by omega
     have HM := hid hm
     have m1 : 3 + n ≤ m := by omega
     have m2 : m ≤ 3 + n := by omega
     have HG := hid (show r[2 + n]? = s.data.toList[m]? by rw [HR.out, hm, show 3 + n = (2 + n) + 1 by omega, List.getElem?_cons_succ])
     clear hm
     by_cases c2 : s.size ≤ m
     ·have HB := hid (HF.out.trans (fin_bad r 2 n p (.inr (.inl (by rw [HG.out, List.getElem?_eq_none (by rw [← size_list]; exact c2)]; simp)))))
      clear c1 k2
      go_wp2_with fail
      refine (t6 _).mono ?_
      rintro e w' ⟨rfl, rfl⟩
      go_wp2_with fail
      refine (t7 _).mono ?_
      rintro e w' ⟨rfl, rfl⟩
      go_wp2_with fail
      refine (hn _).mono ?_
      rintro e w' ⟨rfl, rfl⟩
      go_wp2
      go_ret2
      exact RQ.mk HB.out B1
     have c3 : m < s.size := by omega
     clear c2
     by_cases c4 : s[m] ≠ 59
     ·have HB := hid (HF.out.trans (fin_bad r 2 n p (.inr (.inl (by rw [HG.out, getE? s m c3]; simpa using c4)))))
      have b2 : ((s[m].toNat : Int) != 59) = true := by rw [bne_iff_ne]; intro h; exact u8_ne _ _ c4 (by show _ = 59; omega)
      clear c1 c4 k2
      go_wp2_with fail
      refine (t6 _).mono ?_
      rintro e w' ⟨rfl, rfl⟩
      go_wp2_with fail
      refine (t7 _).mono ?_
      rintro e w' ⟨rfl, rfl⟩
      go_wp2_with fail
      refine (hn _).mono ?_
      rintro e w' ⟨rfl, rfl⟩
      go_wp2
      go_ret2
      exact RQ.mk HB.out B1
     have c4 := Decidable.not_not.1 c4
     have b2 : ((s[m].toNat : Int) != 59) = false := by rw [c4]; decide
     have G59 := hid (show r[2 + n]? = some 59 by rw [HG.out, getE? s m c3, c4])
     clear c4
     by_cases c5 : p = 0
     ·have HB := hid (HF.out.trans (fin_bad r 2 n p (.inr (.inr (.inl c5)))))
      have b3 : (p == 0) = true := by rw [beq_iff_eq]; exact c5
      clear c1 c5 k2
      go_wp2_with fail
      refine (t6 _).mono ?_
      rintro e w' ⟨rfl, rfl⟩
      go_wp2_with fail
      refine (t7 _).mono ?_
      rintro e w' ⟨rfl, rfl⟩
      go_wp2_with fail
      refine (hn _).mono ?_
      rintro e w' ⟨rfl, rfl⟩
      go_wp2
      go_ret2
      exact RQ.mk HB.out B1
     have b3 : (p == 0) = false := by rw [beq_eq_false_iff_ne]; exact c5
     have hi := is_any p (w.alloc (.cells #[.string ⟨#[38, 97, 109, 112, 59]⟩, .string ⟨#[38, 108, 116, 59]⟩, .string ⟨#[38, 103, 116, 59]⟩, .string ⟨#[38, 113, 117, 111, 116, 59]⟩, .string ⟨#[38, 97, 112, 111, 115, 59]⟩] 9))
     cases c6 : isPt p with
     | false =>
      rw [c6] at hi
      have HB := hid (HF.out.trans (fin_bad r 2 n p (.inr (.inr (.inr c6)))))
      clear c1 c5 c6 k2
      go_wp2_with fail
      refine (t6 _).mono ?_
      rintro e w' ⟨rfl, rfl⟩
      go_wp2_with fail
      refine (t7 _).mono ?_
      rintro e w' ⟨rfl, rfl⟩
      go_wp2_with fail
      refine (hn _).mono ?_
      rintro e w' ⟨rfl, rfl⟩
      go_wp2_with fail
      refine hi.mono ?_
      rintro e w' ⟨rfl, rfl⟩
      go_wp2
      go_ret2
      exact RQ.mk HB.out B1
     | true =>
      rw [c6] at hi
      have HB := hid (HF.out.trans (fin_good r 2 n p c1 G59.out c5 c6))
      clear c1 c5 c6 k2
      go_wp2_with fail
      refine (t6 _).mono ?_
      rintro e w' ⟨rfl, rfl⟩
      go_wp2_with fail
      refine (t7 _).mono ?_
      rintro e w' ⟨rfl, rfl⟩
      go_wp2_with fail
      refine (hn _).mono ?_
      rintro e w' ⟨rfl, rfl⟩
      go_wp2_with fail
      refine hi.mono ?_
      rintro e w' ⟨rfl, rfl⟩
      go_wp2
      go_ret2
      exact RQ.mkI HB.out (by have := HM.out; omega) B1
    | false =>
     cases q8 with
     | true =>
      have hl := L8.out rfl
      have hn := fun W => rnumber10_any (s.extract 2 s.size) 7 W (by simp; omega) (by omega)
      unfold NumOut at hn
      rw [drop_extract, HR.out, List.drop_succ_cons] at hn
      have hv := valD_len 10 7 (r.drop 1) (by omega) (by omega) (by omega)
      have hk := digs_length 10 7 (r.drop 1)
      rw [List.length_drop] at hk
      have HF := hid (show q0 = fin r 1 (digs 10 7 (r.drop 1)).length (valD 10 (digs 10 7 (r.drop 1))) by rw [HQ.out]; rfl)
      generalize valD 10 (digs 10 7 (r.drop 1)) = p at *
      generalize (digs 10 7 (r.drop 1)).length = n at *
      obtain ⟨v0, v1⟩ := hv
      obtain ⟨k1, k2⟩ := hk
      by_cases c1 : n = 0
      ·have HB := hid (HF.out.trans (fin_bad r 1 n p (.inl c1)))
       have b1 : ((n : Int) == 0) = true := by rw [beq_iff_eq]; omega
       clear c1
       go_wp2_with fail
       refine (t6 _).mono ?_
       rintro e w' ⟨rfl, rfl⟩
       go_wp2_with fail
       refine (t7 _).mono ?_
       rintro e w' ⟨rfl, rfl⟩
       go_wp2_with fail
       refine (t8 _).mono ?_
       rintro e w' ⟨rfl, rfl⟩
       go_wp2_with fail
       refine (hn _).mono ?_
       rintro e w' ⟨rfl, rfl⟩
       go_wp2
       go_ret2
       exact RQ.mk HB.out B1
      have b1 : ((n : Int) == 0) = false := by rw [beq_eq_false_iff_ne]; omega
      obtain ⟨m, hm⟩ : ∃ m : Nat, m = 2 + n := ⟨_, rfl⟩
      have hix : (2 : Int) + (n : Int) = (m : Int) := by omega
      have HM := hid hm
      have m1 : 2 + n ≤ m := by omega
      have m2 : m ≤ 2 + n := by omega
      have HG := hid (show r[1 + n]? = s.data.toList[m]? by rw [HR.out, hm, show 2 + n = (1 + n) + 1 by omega, List.getElem?_cons_succ])
      clear hm
      by_cases c2 : s.size ≤ m
      ·have HB := hid (HF.out.trans (fin_bad r 1 n p (.inr (.inl (by rw [HG.out, List.getElem?_eq_none (by rw [← size_list]; exact c2)]; simp)))))
       clear c1 k2
       go_wp2_with fail
       refine (t6 _).mono ?_
       rintro e w' ⟨rfl, rfl⟩
       go_wp2_with fail
       refine (t7 _).mono ?_
       rintro e w' ⟨rfl, rfl⟩
       go_wp2_with fail
       refine (t8 _).mono ?_
       rintro e w' ⟨rfl, rfl⟩
       go_wp2_with fail
       refine (hn _).mono ?_
       rintro e w' ⟨rfl, rfl⟩
       go_wp2
       go_ret2
       exact RQ.mk HB.out B1
      have c3 : m < s.size := by omega
      clear c2
      by_cases c4 : s[m] ≠ 59
      ·have HB := hid (HF.out.trans (fin_bad r 1 n p (.inr (.inl (by rw [HG.out, getE? s m c3]; simpa using c4)))))
       have b2 : ((s[m].toNat : Int) != 59) = true := by rw [bne_iff_ne]; intro h; exact u8_ne _ _ c4 (by show _ = 59; omega)
       clear c1 c4 k2
       go_wp2_with fail
       refine (t6 _).mono ?_
       rintro e w' ⟨rfl, rfl⟩
       go_wp2_with fail
       refine (t7 _).mono ?_
       rintro e w' ⟨rfl, rfl⟩
       go_wp2_with fail
       refine (t8 _).mono ?_
       rintro e w' ⟨rfl, rfl⟩
       go_wp2_with fail
       refine (hn _).mono ?_
       rintro e w' ⟨rfl, rfl⟩
       go_wp2
       go_ret2
       exact RQ.mk HB.out B1
      have c4 := Decidable.not_not.1 c4
      have b2 : ((s[m].toNat : Int) != 59) = false := by rw [c4]; decide
      have G59 := hid (show r[1 + n]? = some 59 by rw [HG.out, getE? s m c3, c4])
      clear c4
      by_cases c5 : p = 0
      ·have HB := hid (HF.out.trans (fin_bad r 1 n p (.inr (.inr (.inl c5)))))
       have b3 : (p == 0) = true := by rw [beq_iff_eq]; exact c5
       clear c1 c5 k2
       go_wp2_with fail
       refine (t6 _).mono ?_
       rintro e w' ⟨rfl, rfl⟩
       go_wp2_with fail
       refine (t7 _).mono ?_
       rintro e w' ⟨rfl, rfl⟩
       go_wp2_with fail
       refine (t8 _).mono ?_
       rintro e w' ⟨rfl, rfl⟩
       go_wp2_with fail
       refine (hn _).mono ?_
       rintro e w' ⟨rfl, rfl⟩
       go_wp2
       go_ret2
       exact RQ.mk HB.out B1
      have b3 : (p == 0) = false := by rw [beq_eq_false_iff_ne]; exact c5
      have hi := is_any p (w.alloc (.cells #[.string ⟨#[38, 97, 109, 112, 59]⟩, .string ⟨#[38, 108, 116, 59]⟩, .string ⟨#[38, 103, 116, 59]⟩, .string ⟨#[38, 113, 117, 111, 116, 59]⟩, .string ⟨#[38, 97, 112, 111, 115, 59]⟩] 9))
      cases c6 : isPt p with
      | false =>
       rw [c6] at hi
       have HB := hid (HF.out.trans (fin_bad r 1 n p (.inr (.inr (.inr c6)))))
       clear c1 c5 c6 k2
       go_wp2_with fail
       refine (t6 _).mono ?_
       rintro e w' ⟨rfl, rfl⟩
       go_wp2_with fail
       refine (t7 _).mono ?_
       rintro e w' ⟨rfl, rfl⟩
       go_wp2_with fail
       refine (t8 _).mono ?_
       rintro e w' ⟨rfl, rfl⟩
       go_wp2_with fail
       refine (hn _).mono ?_
       rintro e w' ⟨rfl, rfl⟩
       go_wp2_with fail
       refine hi.mono ?_
       rintro e w' ⟨rfl, rfl⟩
       go_wp2
       go_ret2
       exact RQ.mk HB.out B1
      | true =>
       rw [c6] at hi
       have HB := hid (HF.out.trans (fin_good r 1 n p c1 G59.out c5 c6))
       clear c1 c5 c6 k2
       go_wp2_with fail
       refine (t6 _).mono ?_
       rintro e w' ⟨rfl, rfl⟩
       go_wp2_with fail
       refine (t7 _).mono ?_
       rintro e w' ⟨rfl, rfl⟩
       go_wp2_with fail
       refine (t8 _).mono ?_
       rintro e w' ⟨rfl, rfl⟩
       go_wp2_with fail
       refine (hn _).mono ?_
       rintro e w' ⟨rfl, rfl⟩
       go_wp2_with fail
       refine hi.mono ?_
       rintro e w' ⟨rfl, rfl⟩
       go_wp2
       go_ret2
       exact RQ.mkI HB.out (by have := HM.out; omega) B1
     | false =>
      have HB := hid (show q0 = (-1, 0) by rw [HQ.out]; rfl)
      go_wp2_with fail
      refine (t6 _).mono ?_
      rintro e w' ⟨rfl, rfl⟩
      go_wp2_with fail
      refine (t7 _).mono ?_
      rintro e w' ⟨rfl, rfl⟩
      go_wp2_with fail
      refine (t8 _).mono ?_
      rintro e w' ⟨rfl, rfl⟩
      go_wp2
      go_ret2
      exact RQ.mk HB.out B1
def OwnB (w : World) (base : Nat) (v : Value) (bs : List UInt8) : Prop := w.ownsRow base 5 1 v bs.length (byteCells bs)
theorem OwnB.below {w w' : World} {base : Nat} {v : Value} {bs : List UInt8} (h : OwnB w base v bs) (hb : Below w.heap.size w w') : OwnB w' base v bs := own_below h hb
theorem OwnB.conv {w : World} {base : Nat} {v : Value} {bs : List UInt8} (h : OwnB w base v bs) : (convert 22 9 v).run Tryz.prog w = .ok (.string ⟨bs.toArray⟩) w := conv_own h
theorem ownB_nil (w : World) (base : Nat) : OwnB w base (.slice none 0 0) [] := World.ownsRow_nil _ _ _ _
theorem oneCell_bytes (l : List UInt8) : ∀ u ∈ byteCells l, u.oneCell' = true := by
 intro u hu
 unfold byteCells at hu
 obtain ⟨x, _, rfl⟩ := List.mem_map.1 hu
 rfl
theorem appB {ops : Array Oper} {rest : List Oper} {o : Oper} {a : Act} {Q : Exit → Act → World → Prop} (hgd : o.guard = none) (s x : Operand)
    (ho : o.op = .call { callee := .builtin .append, args := #[s, x], argTypes := #[22, 22] }) (w w0 : World) (B base : Nat) (v : Value) (bs l : List UInt8) (cs : Array Value) (n : Nat) (hcs : cs = (byteCells l).toArray) (hn : l.length = n)
    (hs : a.eval s = v) (hown : OwnB w base v bs) (hx : a.eval x = .slice (some ⟨w.heap.size, 0, none⟩) n n) (hlen : bs.length + n ≤ 10000000) (hbase : base ≤ w.heap.size) (hB : B ≤ base) (hb : Below B w0 w)
    (h : ∀ v' w', OwnB w' base v' (bs ++ l) → Below B w0 w' → wpList Tryz.prog ops Q rest (a.put o.dst v') w') :
    wpList Tryz.prog ops Q (o :: rest) a (w.alloc (.cells cs 5)) := by
 subst hcs
 obtain ⟨i0, hi, hz0, hz1, hz2⟩ := info_parts Tryz.infoB
 have hl : (byteCells l).length = n := by rw [Lib.byteCells_length]; exact hn
 refine wpList_append_own _ hgd s x 22 ho base 5 i0 (.int .u8 0) 1 1 Tryz.underlying22 hi hz0 hz1 hz2 rfl (by decide) v bs.length _ hs (World.ownsRow.alloc hown _) ⟨w.heap.size, 0, none⟩ n n (byteCells l) hx (by rw [hl, Nat.mul_one]) (c1_many w (byteCells l) 5) (oneCell_bytes l) (by unfold maxLen; omega) (by omega) (by simp; omega) ?_
 intro v' w' hown' hgrow _
 refine h v' w' ?_ ?_
 ·unfold OwnB
  rw [byteCells_append, List.length_append, hn]
  exact hown'
 ·refine (hb.alloc (by omega) _).grown hgrow (by simp; omega) (fun k hk => ?_)
  have := (World.ownsRow.lt hown k hk).1
  omega
theorem runeCells_eq (p : Int) : runeCells p = byteCells (encodeRune p) := (byteCells_encodeRune p).symm
end Go.Proofs.YtklcjimmbkpbdaaGreatDoor
