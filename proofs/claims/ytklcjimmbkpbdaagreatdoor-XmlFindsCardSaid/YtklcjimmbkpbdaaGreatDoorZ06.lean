/-
  Of the proofs of layer 8 (elements of XML): the parts Ref Keep Make. No conditions.
-/
import Derived.Test.YtklcjimmbkpbdaaGreatDoorZ04
import Derived.Test.YtklcjimmbkpbdaaGreatDoorZ05
import Derived.Test.YtklcjimmbkpbdaaGreatDoorZ01
namespace Go.Proofs.YtklcjimmbkpbdaaGreatDoor
open Go.RowKit
open Go.Lib

/-- A slice of the call's own that holds these ints. -/
def OwnI (w : World) (base : Nat) (v : Value) (zs : List Int) : Prop := w.ownsRow base 3 1 v zs.length (zs.map (Value.int .i64))
/-- One number more behind a list of the call's own. -/
theorem app1 {ops : Array Oper} {rest : List Oper} {o : Oper} {a : Act} {Q : Exit → Act → World → Prop} (hgd : o.guard = none) (s x : Operand)
    (ho : o.op = .call { callee := .builtin .append, args := #[s, x], argTypes := #[74, 74] }) (w w0 : World) (B base : Nat) (v : Value) (zs : List Int) (z : Int)
    (hs : a.eval s = v) (hown : OwnI w base v zs) (hx : a.eval x = .slice (some ⟨w.heap.size, 0, none⟩) 1 1) (hlen : zs.length ≤ 10000000) (hbase : base ≤ w.heap.size) (hB : B ≤ base) (hb : Below B w0 w)
    (h : ∀ v' w', OwnI w' base v' (zs ++ [z]) → Below B w0 w' → wpList Tryz.prog ops Q rest (a.put o.dst v') w') :
    wpList Tryz.prog ops Q (o :: rest) a (w.alloc (.cells #[.int .i64 z] 3)) := by
  obtain ⟨i0, hi, hz0, hz1, hz2⟩ := info_parts Tryz.info3
  refine wpList_append_own _ hgd s x 74 ho base 3 i0 (.int .i64 0) 1 8 Tryz.underlying74 hi hz0 hz1 hz2 rfl (by decide) v zs.length _ hs (World.ownsRow.alloc hown _) ⟨w.heap.size, 0, none⟩ 1 1 [.int .i64 z] hx rfl (c1_one _ _ _ _) (c2_one _ _) (by unfold maxLen; omega) (by omega) (by simp; omega) ?_
  intro v' w' hown' hgrow _
  have R := own_more hB hown hb (by omega) hown' hgrow
  exact h v' w' R.1 R.2

theorem allPt_filter {l : List Int} (f : Int → Bool) (h : AllPt l) : AllPt (l.filter f) := fun p hp => h p (List.mem_filter.1 hp).1

set_option maxRecDepth 100000 in
set_option maxHeartbeats 2000000 in
theorem rplain_any (s : ByteArray) (w : World) (hs : s.size ≤ 1000000) : Calls Tryz.prog 26 #[.string s] w fun e w' => e = .returned (.string ⟨(enc ((pts s.data.toList).filter inXml)).toArray⟩) ∧ Below w.heap.size w w' := by
  have hL := pts_length_le s.data.toList
  have hL : (pts s.data.toList).length ≤ 1000000 := by simp at hL; omega
  have hc := rfixed_any s w hs
  have HP := Lib.hid (pts_allPt s.data.toList)
  generalize pts s.data.toList = zs at *
  go_enter Tryz.func26, Tryz.ntmps26
  go_wp2_with fail
  refine hc.mono ?_
  clear hc
  rintro e w1 ⟨A, c, rfl, hcap, hR, hbw1⟩
  go_wp2
  go_loopw [3, 9] (fun v i wr => ∃ (k : Nat) (ys : List Int), k ≤ zs.length ∧ i = .int .i64 k ∧ OwnI wr w1.heap.size v ys ∧ Below w1.heap.size w1 wr ∧ ys.length ≤ k ∧ Hid (ys = (zs.take k).filter inXml)) (fun _ i _ => zs.length - (RowKit.intOf i).toNat)
  case atStart => exact ⟨0, [], Nat.zero_le _, rfl, World.ownsRow_nil _ _ _ _, Below.refl _ _, by simp, by simp [Hid]⟩
  case round =>
    obtain ⟨k, ys, hk, rfl, hown, hbw, hyl, hys⟩ := hrel
    have hbsz := hbw.size
    by_cases hlt : k < zs.length
    · obtain ⟨b, off, rfl, hblt, hcell⟩ := hR (by omega)
      have hx := (hbw.cell (p := ⟨b, off + k, none⟩) (by exact hblt)).trans (hcell k hlt)
      have HT := Lib.hid (List.take_succ_eq_append_getElem hlt)
      have HX : zs.getD k 0 = zs[k] := by simp [List.getD, List.getElem?_eq_getElem hlt]
      rw [HX] at hx
      generalize zs[k] = z at *
      clear hcell HX hR
      have hF0 := Lib.hid (show (zs.take (k + 1)).filter inXml = ys ++ (if inXml z = true then [z] else []) by rw [HT.out, List.filter_append, hys.out]; by_cases q : inXml z = true <;> simp [q])
      cases hin : inXml z with
      | true =>
        have hF := Lib.hid (show (ys ++ [z]) = (zs.take (k + 1)).filter inXml by rw [hF0.out, hin]; rfl)
        clear hF0
        have hcase : (32 ≤ z ∧ (z != 65534) = true ∧ (z != 65535) = true) ∨ z = 9 ∨ z = 10 ∨ z = 13 := by
          unfold inXml at hin
          rw [decide_eq_true_eq] at hin
          rcases hin with ⟨h1, h2, h3⟩ | h | h | h
          · exact .inl ⟨h1, by rw [bne_iff_ne]; exact h2, by rw [bne_iff_ne]; exact h3⟩
          · exact .inr (.inl h)
          · exact .inr (.inr (.inl h))
          · exact .inr (.inr (.inr h))
        clear hin
        rcases hcase with ⟨h1, h2, h3⟩ | rfl | rfl | rfl
        all_goals
          go_wp2_with (at_builtin; refine app1 rfl _ _ rfl wr w1 w1.heap.size w1.heap.size _ ys _ rfl (by exact hown) rfl (by omega) hbsz (Nat.le_refl _) hbw ?_)
          intro v' w2 hown' hb'
          clear hown hbw
          go_wp2
          go_roundw
          case rel => exact ⟨k + 1, _, by omega, by go_num, hown', hb', by simp; omega, hF⟩
          case measure => simp [RowKit.intOf]; omega
      | false =>
        have hF := Lib.hid (show ys = (zs.take (k + 1)).filter inXml by rw [hF0.out, hin]; simp)
        clear hF0
        have hcase : (z < 32 ∧ (z == 9) = false ∧ (z == 10) = false ∧ (z == 13) = false) ∨ z = 65534 ∨ z = 65535 := by
          unfold inXml at hin
          rw [decide_eq_false_iff_not] at hin
          by_cases q1 : z = 65534
          · exact .inr (.inl q1)
          by_cases q2 : z = 65535
          · exact .inr (.inr q2)
          refine .inl ⟨by omega, ?_, ?_, ?_⟩
          all_goals rw [beq_eq_false_iff_ne]; omega
        clear hin
        rcases hcase with ⟨h1, h2, h3, h4⟩ | rfl | rfl
        all_goals
          go_wp2
          go_roundw
          case rel => exact ⟨k + 1, ys, by omega, by go_num, hown, hbw, by omega, hF⟩
          case measure => simp [RowKit.intOf]; omega
    · obtain ⟨A', c', rfl, hc', hRy⟩ := RI.of_own hown
      have he := Lib.hid (show ys = zs.filter inXml by have := hys.out; rwa [List.take_of_length_le (by omega)] at this)
      have ht := text_any A' c' ys wr (by omega) (by rw [he.out]; exact allPt_filter _ HP.out) hRy
      clear hRy hown
      go_wp2_with fail
      refine ht.mono ?_
      clear ht
      rintro e w2 ⟨rfl, hb2⟩
      go_wp2
      go_ret
      exact ⟨by rw [← he.out]; rfl, hbw1.trans ((hbw.mono hbw1.size).trans (hb2.mono (by have := hbw1.size; omega)))⟩
end Go.Proofs.YtklcjimmbkpbdaaGreatDoor
namespace Go.Proofs.YtklcjimmbkpbdaaGreatDoor
open Go.RowKit
open Go.Lib

set_option maxRecDepth 100000 in
theorem inXML_any (r : Int) (w : World) : Calls Tryz.prog 75 #[.int .i32 r] w fun e w' => e = .returned (.bool (inXml r)) ∧ w = w' := by
  go_enter Tryz.func75, Tryz.ntmps75
  go_wp2
  all_goals (go_ret; refine ⟨ret_bool ?_, rfl⟩)
  all_goals (simp only [beq_iff_eq, beq_eq_false_iff_ne] at *; rw [Bool.eq_iff_iff]; simp only [inXml, decide_eq_true_eq, true_iff, false_iff, Bool.false_eq_true]; omega)
/-- The points from place k on. -/
def ptsFrom (s : ByteArray) (k : Nat) : List Int := pts (s.data.toList.drop k)
theorem ptsFrom_step (s : ByteArray) (k : Nat) (h : k < s.size) : ptsFrom s k = ((Utf8.decode s k).1 : Int) :: ptsFrom s (k + (Utf8.decode s k).2) ∧ 1 ≤ (Utf8.decode s k).2 ∧ k + (Utf8.decode s k).2 ≤ s.size ∧ (Utf8.decode s k).1 ≤ 1114111 := by
  have hne : s.data.toList.drop k ≠ [] := by
    intro h
    have := congrArg List.length h
    simp at this
    omega
  have hstep := pts_cons (s.data.toList.drop k) hne
  have hle := decodeL_le (s.data.toList.drop k) hne
  have hwd := decodeL_width (s.data.toList.drop k)
  have hru := decodeL_rune (s.data.toList.drop k)
  rw [List.drop_drop] at hstep
  rw [List.length_drop] at hle
  rw [decodeL_drop] at hstep hle hwd hru
  refine ⟨hstep, hwd, ?_, hru⟩
  simp at hle
  omega
theorem ptsFrom_end (s : ByteArray) (k : Nat) (h : ¬ k < s.size) : ptsFrom s k = [] := by
  unfold ptsFrom
  rw [List.drop_of_length_le (by simp; omega)]
  rfl
theorem byteCells_enc (a : List Int) (p : Int) : byteCells (enc a) ++ runeCells p = byteCells (enc (a ++ [p])) := by
  rw [enc_append, byteCells_append, ← byteCells_encodeRune]
  simp [enc]

set_option maxRecDepth 100000 in
set_option maxHeartbeats 2000000 in
theorem keep_xml (s : ByteArray) (w : World) (hs : s.size ≤ 1000000) :
    Calls Tryz.prog 74 #[.string s, .func (Fn.func 75) #[] #[]] w fun e w' => e = .returned (.string ⟨(enc ((pts s.data.toList).filter inXml)).toArray⟩) ∧ Below w.heap.size w w' := by
  go_enter Tryz.func74, Tryz.ntmps74
  go_wp2
  go_loopw [] (fun wr => ∃ (k : Nat) (acc : List Int), k ≤ s.size ∧ Lib.IsBuilderF 69 5 w.heap.size w.heap.size (byteCells (enc acc)) wr ∧ wr.heap[w.heap.size + 1]? = some (.stringIter s k) ∧ Below w.heap.size w wr ∧ acc.length ≤ k ∧ Hid (acc ++ (ptsFrom s k).filter inXml = (pts s.data.toList).filter inXml))
    (fun wr => s.size - wr.iterPos (w.heap.size + 1))
  case atStart =>
    refine ⟨0, [], Nat.zero_le _, (Lib.IsBuilderF.of (Lib.fresh_isBuilder 69 5 w)).alloc _, ?_, ((Below.refl _ w).alloc (Nat.le_refl _) _).alloc (by simp) _, by simp, by simp [Hid, ptsFrom]⟩
    have := World.iter_heap (w.alloc (.cells #[.pointer none, .slice none 0 0] 69)) s 0
    simpa using this
  case round =>
    obtain ⟨k, acc, hk, hI, hit, hbw, hal, hac⟩ := hrel
    have hbsz : w.heap.size + 1 < wr.heap.size := (Array.getElem?_eq_some_iff.1 hit).1
    by_cases hlt : k < s.size
    · have hnx : ∀ ty, (Instr.next (.pointer (some ⟨w.heap.size + 1, 0, none⟩)) true ty).run Tryz.prog wr = _ := fun ty => Lib.run_next_any_at wr (w.heap.size + 1) s k ty hit hlt
      obtain ⟨hstep, hwd, hle, hru⟩ := ptsFrom_step s k hlt
      have hI2 := hI.iterAt hit (k + (Utf8.decode s k).2)
      have hit2 := Lib.iterAt_heap wr (w.heap.size + 1) s k (k + (Utf8.decode s k).2) hit
      have hbw2 := Lib.below_iterAt hbw (k := w.heap.size + 1) (by omega) s (k + (Utf8.decode s k).2)
      have hsz2 : w.heap.size ≤ (wr.iterAt (w.heap.size + 1) s (k + (Utf8.decode s k).2)).heap.size := by rw [Lib.iterAt_size]; omega
      have hm : s.size - (k + (Utf8.decode s k).2) < s.size - k := by omega
      have HIT0 := Lib.hid hit
      have hel := enc_length_le acc
      generalize Utf8.decode s k = d at *
      obtain ⟨p, n⟩ := d
      simp only at hwd hle hru hstep hnx hI2 hit2 hbw2 hsz2 hm
      generalize wr.iterAt (w.heap.size + 1) s (k + n) = wi at *
      have HIT := Lib.hid hit2
      clear hit2 hit hbw hI
      cases hin : inXml (p : Int) with
      | true =>
        have H2 := Lib.hid (show (acc ++ [(p : Int)]) ++ (ptsFrom s (k + n)).filter inXml = (pts s.data.toList).filter inXml by rw [← hac.out, hstep, List.filter_cons, hin]; simp)
        clear hstep
        go_wp2_with (go_at_call 75; refine (inXML_any _ _).mono ?_; rintro e w' ⟨rfl, rfl⟩)
        refine (sbRune w.heap.size w.heap.size _ (p : Int) (by omega) (by omega) _ hI2 (by rw [Lib.byteCells_length]; omega) hsz2).mono ?_
        rintro e W1 ⟨rfl, h1, b1, k1⟩
        clear hin
        go_wp2
        go_roundw
        case rel =>
          refine ⟨k + n, acc ++ [(p : Int)], hle, ?_, k1.iter HIT.out (by omega), hbw2.trans b1, by simp; omega, H2⟩
          rw [← byteCells_enc]; exact Or.inr h1
        case measure => rw [iterPos_of (k1.iter HIT.out (by omega)), iterPos_of HIT0.out]; exact hm
      | false =>
        have H2 := Lib.hid (show acc ++ (ptsFrom s (k + n)).filter inXml = (pts s.data.toList).filter inXml by rw [← hac.out, hstep, List.filter_cons, hin]; simp)
        clear hstep
        go_wp2_with (go_at_call 75; refine (inXML_any _ _).mono ?_; rintro e w' ⟨rfl, rfl⟩)
        clear hin
        go_roundw
        case rel => exact ⟨k + n, acc, hle, hI2, HIT.out, hbw2, by omega, H2⟩
        case measure => rw [iterPos_of HIT.out, iterPos_of HIT0.out]; exact hm
    · have hnx : ∀ ty, (Instr.next (.pointer (some ⟨w.heap.size + 1, 0, none⟩)) true ty).run Tryz.prog wr = _ := fun ty => Lib.run_next_end_at wr (w.heap.size + 1) s k ty hit hlt
      have HE := Lib.hid (ptsFrom_end s k hlt)
      clear hit
      go_wp2_with fail
      refine (sbString w.heap.size w.heap.size (enc acc) _ hI (by omega)).mono ?_
      rintro e W1 ⟨rfl, _, b1, _⟩
      go_wp2
      go_ret
      have hq := hac.out
      rw [HE.out] at hq
      simp only [List.filter_nil, List.append_nil] at hq
      rw [← hq]
      exact ⟨rfl, hbw.trans b1⟩

theorem plain_any (s : ByteArray) (w : World) (hs : s.size ≤ 1000000) :
    Calls Tryz.prog 50 #[.string s] w fun e w' => e = .returned (.string ⟨(enc ((pts s.data.toList).filter inXml)).toArray⟩) ∧ Below w.heap.size w w' := by
  have hc := keep_xml s w hs
  go_enter Tryz.func50, Tryz.ntmps50
  go_wp2_with fail
  refine hc.mono ?_
  rintro e w1 ⟨rfl, hb⟩
  go_wp2
  go_ret
  exact ⟨rfl, hb⟩
end Go.Proofs.YtklcjimmbkpbdaaGreatDoor
namespace Go.Proofs.YtklcjimmbkpbdaaGreatDoor
open Go.RowKit
open Go.Lib

/-- What Make answers. -/
def MakeOut (l : List Int) (w : World) (e : Ending) (w' : World) : Prop :=
  (e = .returned (.tuple #[.string ⟨(if l.all isPt = true then enc l else []).toArray⟩, .int .i64 (if l.all isPt = true then 0 else 2)])) ∧ Below w.heap.size w w'
theorem MakeOut.good {l : List Int} {w w' : World} (h : l.all isPt = true) (hb : Below w.heap.size w w') : MakeOut l w (.returned (.tuple #[.string ⟨(enc l).toArray⟩, .int .i64 0])) w' := by
  unfold MakeOut; rw [if_pos h, if_pos h]; exact ⟨rfl, hb⟩
theorem MakeOut.bad {l : List Int} {w w' : World} (h : l.all isPt = false) (hb : Below w.heap.size w w') : MakeOut l w (.returned (.tuple #[.string ⟨#[]⟩, .int .i64 2])) w' := by
  unfold MakeOut; rw [h]; exact ⟨rfl, hb⟩
set_option maxRecDepth 100000 in
set_option maxHeartbeats 2000000 in
theorem make_any (A : Option Addr) (c : Nat) (l : List Int) (w : World) (hl : l.length ≤ 1000000) (hR : RI w A l) :
    Calls Tryz.prog 162 #[.slice A l.length c] w (MakeOut l w) := by
  go_enter Tryz.func162, Tryz.ntmps162
  go_wp2
  go_loopw [9] (fun i wr => ∃ (k : Nat) (acc : List Int), k ≤ l.length ∧ i = .int .i64 k ∧ Lib.IsBuilderF 69 5 w.heap.size w.heap.size (byteCells (enc acc)) wr ∧ Below w.heap.size w wr ∧ w.heap.size < wr.heap.size ∧ acc.length ≤ k ∧ Hid (acc = l.take k ∧ acc.all isPt = true)) (fun i _ => l.length - (RowKit.intOf i).toNat)
  case atStart => exact ⟨0, [], Nat.zero_le _, rfl, Lib.IsBuilderF.of (Lib.fresh_isBuilder 69 5 w), (Below.refl _ w).alloc (Nat.le_refl _) _, by simp, by simp, by simp [Hid]⟩
  case round =>
    obtain ⟨k, acc, hk, rfl, hI, hbw, hbsz, hal, hac⟩ := hrel
    by_cases hlt : k < l.length
    · obtain ⟨b, off, rfl, hblt, hcell⟩ := hR (by omega)
      have hx := (hbw.cell (p := ⟨b, off + k, none⟩) (by exact hblt)).trans (hcell k hlt)
      have HT := Lib.hid (List.take_succ_eq_append_getElem hlt)
      have HX : l.getD k 0 = l[k] := by simp [List.getD, List.getElem?_eq_getElem hlt]
      rw [HX] at hx
      have HM := Lib.hid (List.getElem_mem hlt)
      generalize l[k] = z at *
      clear hcell HX hR
      have hel := enc_length_le acc
      cases hin : isPt z with
      | true =>
        obtain ⟨z0, z1, z2⟩ := (isPt_iff z).1 hin
        clear z2
        have H2 := Lib.hid (show (acc ++ [z]) = l.take (k + 1) ∧ (acc ++ [z]).all isPt = true by rw [HT.out, ← hac.out.1, List.all_append, hac.out.2]; simp [hin])
        have hr := sbRune w.heap.size w.heap.size _ z (by omega) (by omega) wr hI (by rw [Lib.byteCells_length]; omega) (by omega)
        rw [byteCells_enc] at hr
        go_wp2_with (go_at_call 165; refine (isPoint_any _ _).mono ?_; rintro e w' ⟨rfl, rfl⟩)
        refine hr.mono ?_
        clear hr
        rintro e W1 ⟨rfl, h1, b1, k1⟩
        have := b1.size
        clear hin hI
        go_wp2
        go_roundw
        case rel => exact ⟨k + 1, _, by omega, by go_num, Or.inr h1, hbw.trans b1, by omega, by simp; omega, H2⟩
        case measure => simp [RowKit.intOf]; omega
      | false =>
        have HB := Lib.hid (show l.all isPt = false by
          rw [Bool.eq_false_iff]; intro h; have := List.all_eq_true.1 h z HM.out; rw [hin] at this; cases this)
        go_wp2_with (go_at_call 165; refine (isPoint_any _ _).mono ?_; rintro e w' ⟨rfl, rfl⟩)
        go_ret2
        exact MakeOut.bad HB.out hbw
    · have HA := Lib.hid (show acc = l ∧ l.all isPt = true by
        have := hac.out
        rw [List.take_of_length_le (by omega)] at this
        exact ⟨this.1, this.1 ▸ this.2⟩)
      go_wp2_with fail
      refine (sbString w.heap.size w.heap.size (enc acc) _ hI (by omega)).mono ?_
      rintro e W1 ⟨rfl, _, b1, _⟩
      go_wp2
      go_ret2
      rw [HA.out.1]
      exact MakeOut.good HA.out.2 (hbw.trans b1)

end Go.Proofs.YtklcjimmbkpbdaaGreatDoor
