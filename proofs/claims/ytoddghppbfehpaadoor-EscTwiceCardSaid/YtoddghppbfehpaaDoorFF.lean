/-
  The walk of the document's Unhtml of layer 2. Conditions: texts of at most a million bytes.
-/
import Derived.Test.YtoddghppbfehpaaDoorFE
namespace Go.Proofs.YtoddghppbfehpaaDoor
open Go.RowKit
open Go.Lib

/-- A slice of the call's own that holds these bytes. -/
def OwnB (w : World) (base : Nat) (v : Value) (bs : List UInt8) : Prop := w.ownsRow base 5 1 v bs.length (byteCells bs)
theorem OwnB.below {w w' : World} {base : Nat} {v : Value} {bs : List UInt8} (h : OwnB w base v bs) (hb : Below w.heap.size w w') : OwnB w' base v bs := own_below h hb
theorem OwnB.conv {w : World} {base : Nat} {v : Value} {bs : List UInt8} (h : OwnB w base v bs) : (convert 35 9 v).run Tryd.prog w = .ok (.string ⟨bs.toArray⟩) w := conv_own h
theorem ownB_nil (w : World) (base : Nat) : OwnB w base (.slice none 0 0) [] := World.ownsRow_nil _ _ _ _
theorem oneCell_bytes (l : List UInt8) : ∀ u ∈ byteCells l, u.oneCell' = true := by
  intro u hu
  unfold byteCells at hu
  obtain ⟨x, _, rfl⟩ := List.mem_map.1 hu
  rfl
/-- Some bytes more behind a list of the call's own. -/
theorem appB {ops : Array Oper} {rest : List Oper} {o : Oper} {a : Act} {Q : Exit → Act → World → Prop} (hgd : o.guard = none) (s x : Operand)
    (ho : o.op = .call { callee := .builtin .append, args := #[s, x], argTypes := #[35, 35] }) (w w0 : World) (B base : Nat) (v : Value) (bs l : List UInt8) (cs : Array Value) (n : Nat) (hcs : cs = (byteCells l).toArray) (hn : l.length = n)
    (hs : a.eval s = v) (hown : OwnB w base v bs) (hx : a.eval x = .slice (some ⟨w.heap.size, 0, none⟩) n n) (hlen : bs.length + n ≤ 10000000) (hbase : base ≤ w.heap.size) (hB : B ≤ base) (hb : Below B w0 w)
    (h : ∀ v' w', OwnB w' base v' (bs ++ l) → Below B w0 w' → wpList Tryd.prog ops Q rest (a.put o.dst v') w') :
    wpList Tryd.prog ops Q (o :: rest) a (w.alloc (.cells cs 5)) := by
  subst hcs
  obtain ⟨i0, hi, hz0, hz1, hz2⟩ := info_parts Tryd.infoB
  have hl : (byteCells l).length = n := by rw [Lib.byteCells_length]; exact hn
  refine wpList_append_own _ hgd s x 35 ho base 5 i0 (.int .u8 0) 1 1 Tryd.underlying35 hi hz0 hz1 hz2 rfl (by decide) v bs.length _ hs (World.ownsRow.alloc hown _) ⟨w.heap.size, 0, none⟩ n n (byteCells l) hx (by rw [hl, Nat.mul_one]) (c1_many w (byteCells l) 5) (oneCell_bytes l) (by unfold maxLen; omega) (by omega) (by simp; omega) ?_
  intro v' w' hown' hgrow _
  refine h v' w' ?_ ?_
  · unfold OwnB
    rw [byteCells_append, List.length_append, hn]
    exact hown'
  · refine (hb.alloc (by omega) _).grown hgrow (by simp; omega) (fun k hk => ?_)
    have := (World.ownsRow.lt hown k hk).1
    omega
theorem runeCells_eq (p : Int) : runeCells p = byteCells (encodeRune p) := (byteCells_encodeRune p).symm
theorem drop_at (s : ByteArray) (k : Nat) (h : k < s.size) : s.data.toList.drop k = s[k] :: s.data.toList.drop (k + 1) := List.drop_eq_getElem_cons (by simpa using h)
set_option maxRecDepth 100000 in
set_option maxHeartbeats 4000000 in
theorem runhtml_any (s : ByteArray) (w : World) (hs : s.size ≤ 1000000) : Calls Tryd.prog 13 #[.string s] w fun e w' => e = .returned (.string ⟨(unh s.data.toList).toArray⟩) ∧ Below w.heap.size w w' := by
  go_enter Tryd.func13, Tryd.ntmps13
  go_wp2
  go_loopw [3, 4] (fun v i wr => ∃ (k : Nat) (bs : List UInt8), k ≤ s.size ∧ i = .int .i64 k ∧ OwnB wr w.heap.size v bs ∧ Below w.heap.size w wr ∧ bs.length ≤ 4 * k ∧ Hid (bs ++ unh (s.data.toList.drop k) = unh s.data.toList)) (fun _ i _ => s.size - (RowKit.intOf i).toNat)
  case atStart => exact ⟨0, [], Nat.zero_le _, rfl, ownB_nil _ _, Below.refl _ _, by simp, by simp [Hid]⟩
  case round =>
    obtain ⟨k, bs, hk, rfl, hown, hbw, hbl, hac⟩ := hrel
    have hbsz := hbw.size
    by_cases hlt : k < s.size
    · have HD := Lib.hid (drop_at s k hlt)
      by_cases c1 : s[k] = 38
      · have b1 : ((s[k].toNat : Int) == 38) = true := by rw [c1]; decide
        have hr := rref_any (s.extract k s.size) (s.data.toList.drop (k + 1)) wr (by simp; omega) (by rw [drop_extract, HD.out, c1])
        have HU := Lib.hid (show unh (s.data.toList.drop k) = unh (38 :: s.data.toList.drop (k + 1)) by rw [HD.out, c1])
        have hok := refQ_ok (s.data.toList.drop (k + 1))
        rw [List.length_drop, ← size_list] at hok
        have HN := Lib.hid (fun h => unh_amp (s.data.toList.drop (k + 1)) h)
        have HP := Lib.hid (fun h => unh_ref (s.data.toList.drop (k + 1)) h)
        unfold RQ at hr
        generalize refQ (s.data.toList.drop (k + 1)) = q at *
        obtain ⟨p, n⟩ := q
        simp only at hr hok
        by_cases hp : p < 0
        · have HV := Lib.hid (show (bs ++ [s[k]]) ++ unh (s.data.toList.drop (k + 1)) = unh s.data.toList by rw [← hac.out, HU.out, HN.out hp, c1]; simp)
          clear hok c1
          go_wp2_with fail
          refine hr.mono ?_
          clear hr
          rintro e w1 ⟨rfl, b2⟩
          have hz1 := b2.size
          have B1 := hbw.trans (b2.mono hbsz)
          have hown1 := hown.below b2
          clear hown b2
          go_wp2_with (at_builtin; refine appB rfl _ _ rfl w1 w w.heap.size w.heap.size _ bs [s[k]] _ 1 rfl rfl rfl (by exact hown1) rfl (by omega) (by omega) (Nat.le_refl _) B1 ?_)
          intro v' w2 hown' hb'
          clear hown1 B1
          go_wp2
          go_roundw
          case rel => exact ⟨k + 1, bs ++ [s[k]], by omega, by go_num, hown', hb', by simp; omega, HV⟩
          case measure => simp [RowKit.intOf]; omega
        · have hok2 : isPt p = true ∧ 3 ≤ n ∧ n ≤ s.size - (k + 1) + 1 ∧ 1 ≤ p := by
            rcases hok with h | h
            · cases h; exact absurd (by decide) hp
            · exact h
          obtain ⟨p1, p2, p3, p4⟩ := hok2
          obtain ⟨q0, q1, q2⟩ := (isPt_iff p).1 p1
          have hel := (encodeRune_length p)
          have HV := Lib.hid (show (bs ++ encodeRune p) ++ unh (s.data.toList.drop (k + n)) = unh s.data.toList by
            rw [← hac.out, HU.out, HP.out hp, List.append_assoc]
            simp only
            rw [List.drop_drop, show k + 1 + (n - 1) = k + n by omega])
          have hone := fun W => one_any p W q0 q1 q2
          unfold OneOut at hone
          have HRC := Lib.hid (runeCells_eq p)
          rw [HRC.out] at hone
          have HL := Lib.hid (Lib.byteCells_length (encodeRune p))
          obtain ⟨m, hm⟩ : ∃ m, (byteCells (encodeRune p)).length = m := ⟨_, rfl⟩
          have hm2 : (encodeRune p).length = m := by rw [← hm, HL.out]
          rw [hm] at hone
          obtain ⟨cs, hcs⟩ : ∃ cs, cs = (byteCells (encodeRune p)).toArray := ⟨_, rfl⟩
          rw [← hcs] at hone
          have HM := Lib.hid hm2
          have HCS := Lib.hid hcs
          rw [hm2] at hel
          clear hok c1 p1 q2 hm hm2 hcs
          go_wp2_with fail
          refine hr.mono ?_
          clear hr
          rintro e w1 ⟨rfl, b2⟩
          have hz1 := b2.size
          have B1 := hbw.trans (b2.mono hbsz)
          have hown1 := hown.below b2
          clear hown b2
          have hon := hone w1
          clear hone
          go_wp2_with fail
          refine hon.mono ?_
          clear hon
          rintro e w1' ⟨rfl, rfl⟩
          go_wp2_with (at_builtin; refine appB rfl _ _ rfl w1 w w.heap.size w.heap.size _ bs (encodeRune p) _ m HCS.out HM.out rfl (by exact hown1) rfl (by omega) (by omega) (Nat.le_refl _) B1 ?_)
          intro v' w2 hown' hb'
          clear hown1 B1
          go_wp2
          go_roundw
          case rel => exact ⟨k + n, bs ++ encodeRune p, by omega, by go_num, hown', hb', by rw [List.length_append, HM.out]; omega, HV⟩
          case measure => simp [RowKit.intOf]; omega
      · have b1 : ((s[k].toNat : Int) == 38) = false := beqF _ 38 c1
        have HV := Lib.hid (show (bs ++ [s[k]]) ++ unh (s.data.toList.drop (k + 1)) = unh s.data.toList by rw [← hac.out, HD.out, unh_cons, if_neg c1]; simp)
        clear c1
        go_wp2_with (at_builtin; refine appB rfl _ _ rfl wr w w.heap.size w.heap.size _ bs [s[k]] _ 1 rfl rfl rfl (by exact hown) rfl (by omega) (by omega) (Nat.le_refl _) hbw ?_)
        intro v' w2 hown' hb'
        clear hown hbw
        go_wp2
        go_roundw
        case rel => exact ⟨k + 1, bs ++ [s[k]], by omega, by go_num, hown', hb', by simp; omega, HV⟩
        case measure => simp [RowKit.intOf]; omega
    · have hcv := hown.conv
      have HE := Lib.hid (show bs = unh s.data.toList by have := hac.out; rw [List.drop_of_length_le (by simp; omega), unh_nil, List.append_nil] at this; exact this)
      go_wp2
      go_ret
      exact ⟨by rw [← HE.out]; rfl, hbw⟩
end Go.Proofs.YtoddghppbfehpaaDoor
