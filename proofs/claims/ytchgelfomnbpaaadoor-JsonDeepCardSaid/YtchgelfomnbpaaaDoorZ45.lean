/-
  The walk of the document's Unjson of layer 2. Conditions: texts of at most a million bytes.
-/
import Derived.Test.YtchgelfomnbpaaaDoorZ44
import Derived.Lib.SlBytesConst
import Derived.Lib.SmallJoins
namespace Go.Proofs.YtchgelfomnbpaaaDoor
open Go.RowKit
open Go.Lib

/-- The value that the first x of the eight letters leave. -/
def one8 (d : UInt8) : Nat → Int
  | 0 => -1
  | n + 1 => if d = ([34, 92, 47, 98, 102, 110, 114, 116] : List UInt8).getD n 0 then ([34, 92, 47, 8, 12, 10, 13, 9] : List Int).getD n 0 else one8 d n
theorem one8_yes (d : UInt8) (n : Nat) (h : d = ([34, 92, 47, 98, 102, 110, 114, 116] : List UInt8).getD n 0) : one8 d (n + 1) = ([34, 92, 47, 8, 12, 10, 13, 9] : List Int).getD n 0 := if_pos h
theorem one8_no (d : UInt8) (n : Nat) (h : ¬ d = ([34, 92, 47, 98, 102, 110, 114, 116] : List UInt8).getD n 0) : one8 d (n + 1) = one8 d n := if_neg h
theorem one8_end (l : List UInt8) (d : UInt8) (h : l[1]? = some d) : (one8 d 8 = -1 ∧ escQ l = unitsQ (unitQ l) (unitQ (l.drop 6))) ∨ (0 ≤ one8 d 8 ∧ one8 d 8 ≤ 127 ∧ escQ l = (one8 d 8, 2)) := by
  have hq := escQ_two l d h
  by_cases h1 : d = 34
  · right; subst h1; exact ⟨by decide, by decide, hq.trans rfl⟩
  by_cases h2 : d = 92
  · right; subst h2; exact ⟨by decide, by decide, hq.trans rfl⟩
  by_cases h3 : d = 47
  · right; subst h3; exact ⟨by decide, by decide, hq.trans rfl⟩
  by_cases h4 : d = 98
  · right; subst h4; exact ⟨by decide, by decide, hq.trans rfl⟩
  by_cases h5 : d = 102
  · right; subst h5; exact ⟨by decide, by decide, hq.trans rfl⟩
  by_cases h6 : d = 110
  · right; subst h6; exact ⟨by decide, by decide, hq.trans rfl⟩
  by_cases h7 : d = 114
  · right; subst h7; exact ⟨by decide, by decide, hq.trans rfl⟩
  by_cases h8 : d = 116
  · right; subst h8; exact ⟨by decide, by decide, hq.trans rfl⟩
  · left
    refine ⟨?_, escQ_u l d h h1 h2 h3 h4 h5 h6 h7 h8⟩
    simp only [one8, List.getD_cons_zero, List.getD_cons_succ]
    rw [if_neg h8, if_neg h7, if_neg h6, if_neg h5, if_neg h4, if_neg h3, if_neg h2, if_neg h1]
/-- What the document's Unjson answers. -/
def UnjR (o : Option (List UInt8)) (w : World) (e : Ending) (w' : World) : Prop :=
  e = .returned (.tuple #[.string ⟨(o.getD []).toArray⟩, .bool o.isSome]) ∧ Below w.heap.size w w'
theorem UnjR.bad {o : Option (List UInt8)} {w w' : World} (h : o = none) (hb : Below w.heap.size w w') : UnjR o w (.returned (.tuple #[.string ⟨#[]⟩, .bool false])) w' := by
  subst h; exact ⟨rfl, hb⟩
theorem UnjR.good {o : Option (List UInt8)} {l : List UInt8} {w w' : World} (h : o = some l) (hb : Below w.heap.size w w') : UnjR o w (.returned (.tuple #[.string ⟨l.toArray⟩, .bool true])) w' := by
  subst h; exact ⟨rfl, hb⟩
theorem map_none {α : Type} (f : α → α) : (none : Option α).map f = none := rfl
theorem unj_92 (r : List UInt8) (p : Int) (n : Nat) (h : escQ (92 :: r) = (p, n)) : (p < 0 → unj (92 :: r) = none) ∧ (0 ≤ p → unj (92 :: r) = (unj ((92 :: r).drop n)).map (encodeRune p ++ ·)) := by
  refine ⟨fun hp => unj_none r (by rw [h]; exact hp), fun hp => ?_⟩
  have := unj_esc r (by rw [h]; show ¬ p < 0; omega)
  rwa [h] at this
theorem oneByte (y : Int) (h0 : 0 ≤ y) (h1 : y ≤ 127) : (#[Value.int .u8 y] : Array Value) = (byteCells (encodeRune y)).toArray ∧ (encodeRune y).length = 1 := by
  rw [encodeRune_ascii y h0 h1]
  refine ⟨?_, rfl⟩
  have := u8_toNat y (by omega)
  simp only [byteCells, List.map_cons, List.map_nil, this]
  rw [show ((y.toNat : Nat) : Int) = y by omega]
def list8 : Obj := .cells #[.int .u8 34, .int .u8 92, .int .u8 47, .int .u8 98, .int .u8 102, .int .u8 110, .int .u8 114, .int .u8 116] 5 (8, 9)
theorem list8_at (w wi : World) (hb : Below (w.heap.size + 1) (w.alloc list8) wi) (j : Nat) (c : Value) (hj : (#[.int .u8 34, .int .u8 92, .int .u8 47, .int .u8 98, .int .u8 102, .int .u8 110, .int .u8 114, .int .u8 116] : Array Value)[j]? = some c) : wi.cell? ⟨w.heap.size, j, none⟩ = some c := by
  rw [hb.cell (p := ⟨w.heap.size, j, none⟩) (by show w.heap.size < _; omega)]
  unfold list8
  rw [World.cell?_alloc_mark]
  exact hj
set_option maxRecDepth 100000 in
set_option maxHeartbeats 16000000 in
theorem runjson_any (s : ByteArray) (w : World) (hs : s.size ≤ 2000000) : Calls Tryd.prog 57 #[.string s] w (UnjR (unjson s.data.toList) w) := by
  have hv := rvalid_any s w hs
  by_cases h2 : s.size < 2
  · have HV := Lib.hid (show unjson s.data.toList = none by unfold unjson; rw [if_neg]; rintro ⟨h, _⟩; unfold quoted at h; rw [decide_eq_true_eq, ← size_list] at h; omega)
    go_enter Tryd.func57, Tryd.ntmps57
    go_wp2
    go_ret2
    exact UnjR.bad HV.out (Below.refl _ _)
  have k1 : 2 ≤ s.size := by omega
  clear h2
  have k0 : 0 < s.size := by omega
  have ds : decide ((s.size : Int) < 2) = false := by simp; omega
  by_cases a : s[0] ≠ 34
  · have HV := Lib.hid (show unjson s.data.toList = none by unfold unjson; rw [if_neg]; rintro ⟨h, _⟩; unfold quoted at h; rw [decide_eq_true_eq, getE? s 0 k0] at h; exact a (Option.some.inj h.2.1))
    have b : ((s[0].toNat : Int) != 34) = true := by rw [bne_iff_ne]; intro h; exact u8_ne _ _ a (by show _ = 34; omega)
    clear a
    go_enter Tryd.func57, Tryd.ntmps57
    go_wp2
    go_ret2
    exact UnjR.bad HV.out (Below.refl _ _)
  have a := Decidable.not_not.1 a
  have b : ((s[0].toNat : Int) != 34) = false := by rw [a]; decide
  obtain ⟨n, hn⟩ : ∃ n, s.size = n + 1 := ⟨s.size - 1, by omega⟩
  have kn : n < s.size := by omega
  have hix : ((s.size : Nat) : Int) - 1 = (n : Nat) := by omega
  have Hn := Lib.hid hn
  by_cases c : s[n] ≠ 34
  · have HV := Lib.hid (show unjson s.data.toList = none by unfold unjson; rw [if_neg]; rintro ⟨h, _⟩; unfold quoted at h; rw [decide_eq_true_eq, ← size_list, hn, Nat.add_sub_cancel, getE? s n kn] at h; exact c (Option.some.inj h.2.2))
    have d : ((s[n].toNat : Int) != 34) = true := by rw [bne_iff_ne]; intro h; exact u8_ne _ _ c (by show _ = 34; omega)
    clear a c hn
    go_enter Tryd.func57, Tryd.ntmps57
    go_wp2
    go_ret2
    exact UnjR.bad HV.out (Below.refl _ _)
  have c := Decidable.not_not.1 c
  have d : ((s[n].toNat : Int) != 34) = false := by rw [c]; decide
  have HC := Lib.hid (show quoted s.data.toList = true by unfold quoted; rw [decide_eq_true_eq, ← size_list]; refine ⟨k1, by rw [getE? s 0 k0, a], ?_⟩; rw [hn, Nat.add_sub_cancel, getE? s n kn, c])
  clear a c
  cases hvb : validD s.data.toList with
  | false =>
    have HV := Lib.hid (show unjson s.data.toList = none by unfold unjson; rw [hvb, if_neg]; simp)
    rw [hvb] at hv
    clear hvb hn
    go_enter Tryd.func57, Tryd.ntmps57
    go_wp2_with fail
    refine hv.mono ?_
    clear hv
    rintro e w1 ⟨rfl, b1⟩
    go_wp2
    go_ret2
    exact UnjR.bad HV.out b1
  | true =>
    have HV := Lib.hid (show unjson s.data.toList = unj (s.extract 1 n).data.toList by
      unfold unjson; rw [HC.out, hvb, if_pos ⟨rfl, rfl⟩, ← inner_extract, hn, Nat.add_sub_cancel])
    rw [hvb] at hv
    have hts : (s.extract 1 n).size ≤ 2000000 := by simp; omega
    have hsl : ∀ W, (Instr.slice 9 (.string s) (some (.int .i64 1)) (some (.int .i64 (n : Int))) none).run Tryd.prog W = .ok (.string (s.extract 1 n)) W := fun W =>
      run_slice_string W 9 s .i64 .i64 1 n Tryd.underlying9 (by omega) (by omega) (by omega)
    clear hvb hn HC
    generalize s.extract 1 n = t at *
    go_enter Tryd.func57, Tryd.ntmps57
    go_wp2_with fail
    refine hv.mono ?_
    clear hv
    rintro e w1 ⟨rfl, B1⟩
    have hw1 := B1.size
    go_wp2
    clear hsl hix b d
    go_loopw [4, 5] (fun v i wr => ∃ (k : Nat) (bs : List UInt8), k ≤ t.size ∧ i = .int .i64 k ∧ OwnB wr w1.heap.size v bs ∧ Below w1.heap.size w1 wr ∧ bs.length ≤ 4 * k ∧ Hid ((unj (t.data.toList.drop k)).map (bs ++ ·) = unj t.data.toList)) (fun _ i _ => t.size - (RowKit.intOf i).toNat)
    case atStart => exact ⟨0, [], Nat.zero_le _, rfl, ownB_nil _ _, Below.refl _ _, by simp, by simp [Hid]⟩
    case round =>
      obtain ⟨k, bs, hk, rfl, hown, hbw, hbl, hac⟩ := hrel
      have hbsz := hbw.size
      have BW : Below w.heap.size w wr := B1.trans (hbw.mono hw1)
      by_cases hlt : k < t.size
      · have HD := Lib.hid (drop_at t k hlt)
        by_cases h32 : t[k].toNat < 32
        · have HN := Lib.hid (show unjson s.data.toList = none by rw [HV.out, ← hac.out, HD.out, unj_bad _ _ (.inl h32)]; rfl)
          go_wp2
          go_ret2
          exact UnjR.bad HN.out BW
        have g32 : 32 ≤ t[k].toNat := by omega
        by_cases h34 : t[k] = 34
        · have HN := Lib.hid (show unjson s.data.toList = none by rw [HV.out, ← hac.out, HD.out, unj_bad _ _ (.inr h34)]; rfl)
          have b1 : ((t[k].toNat : Int) == 34) = true := by rw [h34]; decide
          clear h32 h34
          go_wp2
          go_ret2
          exact UnjR.bad HN.out BW
        have b1 : ((t[k].toNat : Int) == 34) = false := beqF _ 34 h34
        by_cases h92 : t[k] ≠ 92
        · have b2 : ((t[k].toNat : Int) != 92) = true := by rw [bne_iff_ne]; intro h; exact u8_ne _ _ h92 (by show _ = 92; omega)
          have HN := Lib.hid (show (unj (t.data.toList.drop (k + 1))).map ((bs ++ [t[k]]) ++ ·) = unj t.data.toList by
            rw [← hac.out, HD.out, unj_cons, if_neg (by rintro (h | h); exact h32 h; exact h34 h), if_pos h92, Option.map_map]
            congr 1
            funext x
            simp)
          clear h32 h34 h92
          go_wp2_with (at_builtin; refine appB rfl _ _ rfl wr w1 w1.heap.size w1.heap.size _ bs [t[k]] _ 1 rfl rfl rfl (by exact hown) rfl (by omega) (by omega) (Nat.le_refl _) hbw ?_)
          intro v' w2 hown' hb'
          clear hown hbw BW
          go_wp2
          go_roundw
          case rel => exact ⟨k + 1, bs ++ [t[k]], by omega, by go_num, hown', hb', by simp; omega, HN⟩
          case measure => simp [RowKit.intOf]; omega
        have h92 := Decidable.not_not.1 h92
        have b2 : ((t[k].toNat : Int) != 92) = false := by rw [h92]; decide
        have HU := Lib.hid (show t.data.toList.drop k = 92 :: t.data.toList.drop (k + 1) by rw [HD.out, h92])
        clear h32 h34 h92 HD
        by_cases hend : k + 1 = t.size
        · have HN := Lib.hid (show unjson s.data.toList = none by
            rw [HV.out, ← hac.out, HU.out, List.drop_of_length_le (by rw [← size_list]; omega)]; rfl)
          have b3 : ((k : Int) + 1 == (t.size : Int)) = true := by rw [beq_iff_eq]; omega
          have b3' : (k + 1 == t.size) = true := by rw [beq_iff_eq]; exact hend
          clear hend
          go_wp2
          go_ret2
          exact UnjR.bad HN.out BW
        have hlt2 : k + 1 < t.size := by omega
        have b3 : ((k : Int) + 1 == (t.size : Int)) = false := by rw [beq_eq_false_iff_ne]; omega
        have b3' : (k + 1 == t.size) = false := by rw [beq_eq_false_iff_ne]; exact hend
        clear hend
        have HE := Lib.hid (one8_end (t.data.toList.drop k) t[k + 1] (by rw [List.getElem?_drop, getE? t (k + 1) hlt2]))
        obtain ⟨W0, hW0⟩ : ∃ W0, W0 = wr := ⟨_, rfl⟩
        subst hW0
        have kc : (convert 22 22 (.slice (some ⟨W0.heap.size, 0, none⟩) 8 8)).run Tryd.prog (W0.alloc (.cells #[.int .u8 34, .int .u8 92, .int .u8 47, .int .u8 98, .int .u8 102, .int .u8 110, .int .u8 114, .int .u8 116] 5)) = .ok (.slice (some ⟨W0.heap.size, 0, none⟩) 8 8) (W0.alloc list8) :=
          Lib.run_convert_bytes_const (P := Tryd.prog) W0 22 5 _ 8 8 Tryd.underlying22 Tryd.underlying5
        go_wp2
        clear kc
        go_loopw [7, 67] (fun one i wi => ∃ (x : Int) (j : Nat), i = .int .i64 x ∧ x = j ∧ j ≤ 8 ∧ one = .int .i64 (one8 t[k + 1] j) ∧ Below (W0.heap.size + 1) (W0.alloc list8) wi) (fun _ i _ => (8 - RowKit.intOf i).toNat)
        case atStart => exact ⟨0, 0, rfl, rfl, by omega, rfl, Below.refl _ _⟩
        case round =>
          obtain ⟨wi, hwi⟩ : ∃ wi, wi = wr := ⟨_, rfl⟩
          subst hwi
          obtain ⟨x, j, rfl, hxj, hj8, rfl, hbi⟩ := hrel
          have hzi := hbi.size
          have hzi : W0.heap.size + 1 ≤ wi.heap.size := by simp at hzi; omega
          have hjc : (x = 0 ∧ j = 0) ∨ (x = 1 ∧ j = 1) ∨ (x = 2 ∧ j = 2) ∨ (x = 3 ∧ j = 3) ∨ (x = 4 ∧ j = 4) ∨ (x = 5 ∧ j = 5) ∨ (x = 6 ∧ j = 6) ∨ (x = 7 ∧ j = 7) ∨ (x = 8 ∧ j = 8) := by omega
          clear hxj hj8
          rcases hjc with ⟨rfl, rfl⟩ | ⟨rfl, rfl⟩ | ⟨rfl, rfl⟩ | ⟨rfl, rfl⟩ | ⟨rfl, rfl⟩ | ⟨rfl, rfl⟩ | ⟨rfl, rfl⟩ | ⟨rfl, rfl⟩ | ⟨rfl, rfl⟩
          · have hcell := list8_at W0 wi hbi 0 (.int .u8 34) rfl
            by_cases hd : t[k + 1] = 34
            · have bd : ((t[k + 1].toNat : Int) == 34) = true := by rw [hd]; decide
              have HO := Lib.hid (show one8 t[k + 1] 1 = 34 from one8_yes _ 0 hd)
              clear hd
              generalize one8 t[k + 1] 0 = y
              go_wp2
              go_roundw
              case rel => exact ⟨1, 1, rfl, rfl, by omega, by rw [HO.out], hbi.alloc (by omega) _⟩
              case measure => simp [RowKit.intOf]
            · have bd : ((t[k + 1].toNat : Int) == 34) = false := beqF _ 34 hd
              have HO := Lib.hid (show one8 t[k + 1] 1 = one8 t[k + 1] 0 from one8_no _ 0 hd)
              clear hd
              go_wp2
              go_roundw
              case rel => exact ⟨1, 1, rfl, rfl, by omega, by rw [HO.out], hbi⟩
              case measure => simp [RowKit.intOf]
          · have hcell := list8_at W0 wi hbi 1 (.int .u8 92) rfl
            by_cases hd : t[k + 1] = 92
            · have bd : ((t[k + 1].toNat : Int) == 92) = true := by rw [hd]; decide
              have HO := Lib.hid (show one8 t[k + 1] 2 = 92 from one8_yes _ 1 hd)
              clear hd
              generalize one8 t[k + 1] 1 = y
              go_wp2
              go_roundw
              case rel => exact ⟨2, 2, rfl, rfl, by omega, by rw [HO.out], hbi.alloc (by omega) _⟩
              case measure => simp [RowKit.intOf]
            · have bd : ((t[k + 1].toNat : Int) == 92) = false := beqF _ 92 hd
              have HO := Lib.hid (show one8 t[k + 1] 2 = one8 t[k + 1] 1 from one8_no _ 1 hd)
              clear hd
              go_wp2
              go_roundw
              case rel => exact ⟨2, 2, rfl, rfl, by omega, by rw [HO.out], hbi⟩
              case measure => simp [RowKit.intOf]
          · have hcell := list8_at W0 wi hbi 2 (.int .u8 47) rfl
            by_cases hd : t[k + 1] = 47
            · have bd : ((t[k + 1].toNat : Int) == 47) = true := by rw [hd]; decide
              have HO := Lib.hid (show one8 t[k + 1] 3 = 47 from one8_yes _ 2 hd)
              clear hd
              generalize one8 t[k + 1] 2 = y
              go_wp2
              go_roundw
              case rel => exact ⟨3, 3, rfl, rfl, by omega, by rw [HO.out], hbi.alloc (by omega) _⟩
              case measure => simp [RowKit.intOf]
            · have bd : ((t[k + 1].toNat : Int) == 47) = false := beqF _ 47 hd
              have HO := Lib.hid (show one8 t[k + 1] 3 = one8 t[k + 1] 2 from one8_no _ 2 hd)
              clear hd
              go_wp2
              go_roundw
              case rel => exact ⟨3, 3, rfl, rfl, by omega, by rw [HO.out], hbi⟩
              case measure => simp [RowKit.intOf]
          · have hcell := list8_at W0 wi hbi 3 (.int .u8 98) rfl
            by_cases hd : t[k + 1] = 98
            · have bd : ((t[k + 1].toNat : Int) == 98) = true := by rw [hd]; decide
              have HO := Lib.hid (show one8 t[k + 1] 4 = 8 from one8_yes _ 3 hd)
              clear hd
              generalize one8 t[k + 1] 3 = y
              go_wp2
              go_roundw
              case rel => exact ⟨4, 4, rfl, rfl, by omega, by rw [HO.out], hbi.alloc (by omega) _⟩
              case measure => simp [RowKit.intOf]
            · have bd : ((t[k + 1].toNat : Int) == 98) = false := beqF _ 98 hd
              have HO := Lib.hid (show one8 t[k + 1] 4 = one8 t[k + 1] 3 from one8_no _ 3 hd)
              clear hd
              go_wp2
              go_roundw
              case rel => exact ⟨4, 4, rfl, rfl, by omega, by rw [HO.out], hbi⟩
              case measure => simp [RowKit.intOf]
          · have hcell := list8_at W0 wi hbi 4 (.int .u8 102) rfl
            by_cases hd : t[k + 1] = 102
            · have bd : ((t[k + 1].toNat : Int) == 102) = true := by rw [hd]; decide
              have HO := Lib.hid (show one8 t[k + 1] 5 = 12 from one8_yes _ 4 hd)
              clear hd
              generalize one8 t[k + 1] 4 = y
              go_wp2
              go_roundw
              case rel => exact ⟨5, 5, rfl, rfl, by omega, by rw [HO.out], hbi.alloc (by omega) _⟩
              case measure => simp [RowKit.intOf]
            · have bd : ((t[k + 1].toNat : Int) == 102) = false := beqF _ 102 hd
              have HO := Lib.hid (show one8 t[k + 1] 5 = one8 t[k + 1] 4 from one8_no _ 4 hd)
              clear hd
              go_wp2
              go_roundw
              case rel => exact ⟨5, 5, rfl, rfl, by omega, by rw [HO.out], hbi⟩
              case measure => simp [RowKit.intOf]
          · have hcell := list8_at W0 wi hbi 5 (.int .u8 110) rfl
            by_cases hd : t[k + 1] = 110
            · have bd : ((t[k + 1].toNat : Int) == 110) = true := by rw [hd]; decide
              have HO := Lib.hid (show one8 t[k + 1] 6 = 10 from one8_yes _ 5 hd)
              clear hd
              generalize one8 t[k + 1] 5 = y
              go_wp2
              go_roundw
              case rel => exact ⟨6, 6, rfl, rfl, by omega, by rw [HO.out], hbi.alloc (by omega) _⟩
              case measure => simp [RowKit.intOf]
            · have bd : ((t[k + 1].toNat : Int) == 110) = false := beqF _ 110 hd
              have HO := Lib.hid (show one8 t[k + 1] 6 = one8 t[k + 1] 5 from one8_no _ 5 hd)
              clear hd
              go_wp2
              go_roundw
              case rel => exact ⟨6, 6, rfl, rfl, by omega, by rw [HO.out], hbi⟩
              case measure => simp [RowKit.intOf]
          · have hcell := list8_at W0 wi hbi 6 (.int .u8 114) rfl
            by_cases hd : t[k + 1] = 114
            · have bd : ((t[k + 1].toNat : Int) == 114) = true := by rw [hd]; decide
              have HO := Lib.hid (show one8 t[k + 1] 7 = 13 from one8_yes _ 6 hd)
              clear hd
              generalize one8 t[k + 1] 6 = y
              go_wp2
              go_roundw
              case rel => exact ⟨7, 7, rfl, rfl, by omega, by rw [HO.out], hbi.alloc (by omega) _⟩
              case measure => simp [RowKit.intOf]
            · have bd : ((t[k + 1].toNat : Int) == 114) = false := beqF _ 114 hd
              have HO := Lib.hid (show one8 t[k + 1] 7 = one8 t[k + 1] 6 from one8_no _ 6 hd)
              clear hd
              go_wp2
              go_roundw
              case rel => exact ⟨7, 7, rfl, rfl, by omega, by rw [HO.out], hbi⟩
              case measure => simp [RowKit.intOf]
          · have hcell := list8_at W0 wi hbi 7 (.int .u8 116) rfl
            by_cases hd : t[k + 1] = 116
            · have bd : ((t[k + 1].toNat : Int) == 116) = true := by rw [hd]; decide
              have HO := Lib.hid (show one8 t[k + 1] 8 = 9 from one8_yes _ 7 hd)
              clear hd
              generalize one8 t[k + 1] 7 = y
              go_wp2
              go_roundw
              case rel => exact ⟨8, 8, rfl, rfl, by omega, by rw [HO.out], hbi.alloc (by omega) _⟩
              case measure => simp [RowKit.intOf]
            · have bd : ((t[k + 1].toNat : Int) == 116) = false := beqF _ 116 hd
              have HO := Lib.hid (show one8 t[k + 1] 8 = one8 t[k + 1] 7 from one8_no _ 7 hd)
              clear hd
              go_wp2
              go_roundw
              case rel => exact ⟨8, 8, rfl, rfl, by omega, by rw [HO.out], hbi⟩
              case measure => simp [RowKit.intOf]
          · have hbi0 : Below W0.heap.size W0 wi := ((Below.refl _ W0).alloc (Nat.le_refl _) _).trans (hbi.mono (by omega))
            have hown1 := hown.below hbi0
            have BI : Below w1.heap.size w1 wi := hbw.trans (hbi0.mono hbsz)
            have BWI : Below w.heap.size w wi := BW.trans (hbi0.mono BW.size)
            clear hbi hown hbi0 BW hbw
            rcases HE.out with ⟨e1, e2⟩ | ⟨e1, e2, e3⟩
            · rw [e1]
              rw [HU.out] at e2
              have hu := unitQ_bd (92 :: t.data.toList.drop (k + 1))
              have hul := unitQ_len (92 :: t.data.toList.drop (k + 1))
              have hvl := unitQ_len ((92 :: t.data.toList.drop (k + 1)).drop 6)
              have hv := unitQ_bd ((92 :: t.data.toList.drop (k + 1)).drop 6)
              have hc1 := fun W => runit_any (t.extract k t.size) W (by simp; omega)
              rw [drop_extract, HU.out] at hc1
              have hc2 := fun W => runit_any (t.extract (k + 6) t.size) W (by simp; omega)
              rw [drop_extract, ← List.drop_drop, HU.out] at hc2
              have HJ := Lib.hid (fun p n h => unj_92 (t.data.toList.drop (k + 1)) p n h)
              have HDD := Lib.hid (fun m => show (92 :: t.data.toList.drop (k + 1)).drop m = t.data.toList.drop (k + m) by rw [← HU.out, List.drop_drop])
              have hl0 : (92 :: t.data.toList.drop (k + 1)).length = t.size - k := by rw [List.length_cons, List.length_drop, ← size_list]; omega
              rw [List.length_drop, hl0] at hvl
              rw [hl0] at hul
              have hul2 : 0 ≤ unitQ (92 :: t.data.toList.drop (k + 1)) → 6 ≤ t.size - k := fun h => (hul h).1
              have hvl2 : 0 ≤ unitQ ((92 :: t.data.toList.drop (k + 1)).drop 6) → 6 ≤ t.size - k - 6 := fun h => (hvl h).1
              clear hul hvl hl0
              generalize unitQ ((92 :: t.data.toList.drop (k + 1)).drop 6) = v at *
              generalize unitQ (92 :: t.data.toList.drop (k + 1)) = u at *
              have E1 := Lib.hid e1
              have E2 := Lib.hid e2
              clear e1 e2
              by_cases hu0 : u < 0
              · have HN := Lib.hid (show unjson s.data.toList = none by
                  rw [HV.out, ← hac.out, HU.out, (HJ.out (-1) 0 (E2.out.trans (by unfold unitsQ; rw [if_neg (by omega), if_neg (by rw [isPt_iff]; omega)]))).1 (by omega)]; rfl)
                have hi := fun W => is_any u W
                have hpu : isPt u = false := by rw [Bool.eq_false_iff, ne_eq, isPt_iff]; omega
                rw [hpu] at hi
                clear hpu hul2 hvl2
                go_wp2_with fail
                refine (hc1 _).mono ?_
                rintro e w' ⟨rfl, rfl⟩
                go_wp2_with fail
                refine (hi _).mono ?_
                rintro e w' ⟨rfl, rfl⟩
                go_wp2
                go_ret2
                exact UnjR.bad HN.out BWI
              have h6 := hul2 (by omega)
              have h60 : 0 ≤ u := by omega
              clear hul2 hu0
              by_cases hhi : 55296 ≤ u ∧ u < 56320
              · obtain ⟨g1, g2⟩ := hhi
                by_cases hlo : 56320 ≤ v ∧ v ≤ 57343
                · obtain ⟨g3, g4⟩ := hlo
                  have h12 := hvl2 (by omega)
                  have he : escQ (92 :: t.data.toList.drop (k + 1)) = (65536 + (u - 55296) * 1024 + (v - 56320), 12) := E2.out.trans (by unfold unitsQ; rw [if_pos (by omega), if_pos (by omega)])
                  obtain ⟨p, hp⟩ : ∃ p, p = 65536 + (u - 55296) * 1024 + (v - 56320) := ⟨_, rfl⟩
                  rw [← hp] at he
                  have hpp : 65536 + (u - 55296) * 1024 + v - 56320 = p := by omega
                  have p0 : 65536 ≤ p := by omega
                  have p1 : p ≤ 1114111 := by omega
                  have HN := Lib.hid (show (unj (t.data.toList.drop (k + 12))).map ((bs ++ encodeRune p) ++ ·) = unj t.data.toList by
                    rw [← hac.out, HU.out, (HJ.out p 12 he).2 (by omega), map_app, HDD.out])
                  have hi := fun W => is_any p W
                  rw [show isPt p = true by rw [isPt_iff]; omega] at hi
                  have hone := fun W => one_any p W (by omega) (by omega) (by omega)
                  unfold OneOut at hone
                  have HRC := Lib.hid (runeCells_eq p)
                  rw [HRC.out] at hone
                  have hel := encodeRune_length p
                  obtain ⟨m, hm⟩ : ∃ m, (byteCells (encodeRune p)).length = m := ⟨_, rfl⟩
                  have hm2 : (encodeRune p).length = m := by rw [← hm, Lib.byteCells_length]
                  rw [hm] at hone
                  obtain ⟨cs, hcs⟩ : ∃ cs, cs = (byteCells (encodeRune p)).toArray := ⟨_, rfl⟩
                  rw [← hcs] at hone
                  have HM := Lib.hid hm2
                  have HCS := Lib.hid hcs
                  rw [hm2] at hel
                  clear hm hm2 hcs
                  clear hp he hvl2
                  go_wp2_with fail
                  refine (hc1 _).mono ?_
                  rintro e w' ⟨rfl, rfl⟩
                  go_wp2_with fail
                  refine (hc2 _).mono ?_
                  rintro e w' ⟨rfl, rfl⟩
                  go_wp2_with fail
                  refine (hi _).mono ?_
                  rintro e w' ⟨rfl, rfl⟩
                  go_wp2_with fail
                  refine (hone _).mono ?_
                  rintro e w' ⟨rfl, rfl⟩
                  clear hpp
                  go_wp2_with (at_builtin; refine appB rfl _ _ rfl wi w1 w1.heap.size w1.heap.size _ bs (encodeRune p) _ m HCS.out HM.out rfl (by exact hown1) rfl (by omega) (by omega) (Nat.le_refl _) BI ?_)
                  intro v' w2 hown' hb'
                  clear hown1 BI BWI
                  go_wp2
                  go_roundw
                  case rel => exact ⟨k + 12, bs ++ encodeRune p, by omega, by go_num, hown', hb', by rw [List.length_append, HM.out]; omega, HN⟩
                  case measure => simp [RowKit.intOf]; omega
                · have he := E2.out.trans (show unitsQ u v = (-1, 0) by unfold unitsQ; rw [if_pos (by omega), if_neg hlo])
                  have HN := Lib.hid (show unjson s.data.toList = none by rw [HV.out, ← hac.out, HU.out, (HJ.out (-1) 0 he).1 (by omega)]; rfl)
                  have hlo2 : v < 56320 ∨ 57343 < v := by omega
                  clear he hlo hvl2
                  rcases hlo2 with g3 | g3
                  all_goals
                    go_wp2_with fail
                    refine (hc1 _).mono ?_
                    rintro e w' ⟨rfl, rfl⟩
                    go_wp2_with fail
                    refine (hc2 _).mono ?_
                    rintro e w' ⟨rfl, rfl⟩
                    go_wp2
                    go_ret2
                    exact UnjR.bad HN.out BWI
              · have hhi2 : u < 55296 ∨ 56320 ≤ u := by omega
                have hi := fun W => is_any u W
                cases hpt : isPt u with
                | false =>
                  rw [hpt] at hi
                  have he := E2.out.trans (show unitsQ u v = (-1, 0) by unfold unitsQ; rw [if_neg (by omega), if_neg (by rw [hpt]; decide)])
                  have HN := Lib.hid (show unjson s.data.toList = none by rw [HV.out, ← hac.out, HU.out, (HJ.out (-1) 0 he).1 (by omega)]; rfl)
                  clear he hhi hpt hvl2
                  rcases hhi2 with g3 | g3
                  all_goals
                    go_wp2_with fail
                    refine (hc1 _).mono ?_
                    rintro e w' ⟨rfl, rfl⟩
                    go_wp2_with fail
                    refine (hi _).mono ?_
                    rintro e w' ⟨rfl, rfl⟩
                    go_wp2
                    go_ret2
                    exact UnjR.bad HN.out BWI
                | true =>
                  rw [hpt] at hi
                  have he := E2.out.trans (show unitsQ u v = (u, 6) by unfold unitsQ; rw [if_neg (by omega), if_pos hpt])
                  have HN := Lib.hid (show (unj (t.data.toList.drop (k + 6))).map ((bs ++ encodeRune u) ++ ·) = unj t.data.toList by
                    rw [← hac.out, HU.out, (HJ.out u 6 he).2 (by omega), map_app, HDD.out])
                  have hb3 := ((isPt_iff u).1 hpt).2.2
                  have hone := fun W => one_any u W (by omega) (by omega) hb3
                  unfold OneOut at hone
                  have HRC := Lib.hid (runeCells_eq u)
                  rw [HRC.out] at hone
                  have hel := encodeRune_length u
                  obtain ⟨m, hm⟩ : ∃ m, (byteCells (encodeRune u)).length = m := ⟨_, rfl⟩
                  have hm2 : (encodeRune u).length = m := by rw [← hm, Lib.byteCells_length]
                  rw [hm] at hone
                  obtain ⟨cs, hcs⟩ : ∃ cs, cs = (byteCells (encodeRune u)).toArray := ⟨_, rfl⟩
                  rw [← hcs] at hone
                  have HM := Lib.hid hm2
                  have HCS := Lib.hid hcs
                  rw [hm2] at hel
                  clear hm hm2 hcs
                  clear he hhi hpt hvl2 hb3
                  rcases hhi2 with g3 | g3
                  all_goals
                    go_wp2_with fail
                    refine (hc1 _).mono ?_
                    rintro e w' ⟨rfl, rfl⟩
                    go_wp2_with fail
                    refine (hi _).mono ?_
                    rintro e w' ⟨rfl, rfl⟩
                    go_wp2_with fail
                    refine (hone _).mono ?_
                    rintro e w' ⟨rfl, rfl⟩
                    go_wp2_with (at_builtin; refine appB rfl _ _ rfl wi w1 w1.heap.size w1.heap.size _ bs (encodeRune u) _ m HCS.out HM.out rfl (by exact hown1) rfl (by omega) (by omega) (Nat.le_refl _) BI ?_)
                    intro v' w2 hown' hb'
                    clear hown1 BI BWI
                    go_wp2
                    go_roundw
                    case rel => exact ⟨k + 6, bs ++ encodeRune u, by omega, by go_num, hown', hb', by rw [List.length_append, HM.out]; omega, HN⟩
                    case measure => simp [RowKit.intOf]; omega
            · rw [HU.out] at e3
              obtain ⟨c1, c2⟩ := oneByte (one8 t[k + 1] 8) e1 e2
              have HN := Lib.hid (show (unj (t.data.toList.drop (k + 2))).map ((bs ++ encodeRune (one8 t[k + 1] 8)) ++ ·) = unj t.data.toList by
                rw [← hac.out, HU.out, (unj_92 _ _ 2 e3).2 e1, map_app, ← HU.out, List.drop_drop])
              have HC1 := Lib.hid c1
              have HC2 := Lib.hid c2
              clear c1 c2 e3
              generalize one8 t[k + 1] 8 = y at *
              go_wp2_with (at_builtin; refine appB rfl _ _ rfl wi w1 w1.heap.size w1.heap.size _ bs (encodeRune y) _ 1 HC1.out HC2.out rfl (by exact hown1) rfl (by omega) (by omega) (Nat.le_refl _) BI ?_)
              intro v' w2 hown' hb'
              clear hown1 BI BWI
              go_wp2
              go_roundw
              case rel => exact ⟨k + 2, bs ++ encodeRune y, by omega, by go_num, hown', hb', by rw [List.length_append, HC2.out]; omega, HN⟩
              case measure => simp [RowKit.intOf]; omega
      · have hcv := hown.conv
        have HE := Lib.hid (show unjson s.data.toList = some bs by
          have := hac.out
          rw [List.drop_of_length_le (by rw [← size_list]; omega), unj_nil] at this
          rw [HV.out, ← this]
          simp)
        go_wp2
        go_ret2
        exact UnjR.good HE.out BW
end Go.Proofs.YtchgelfomnbpaaaDoor
