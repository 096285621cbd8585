/-
  The walk of package link's cutPort. Conditions: texts of at most a million bytes; the library's variables hold what they are laid with.
-/
import Derived.Test.YtlgggibdgfdmhaaGreatDoorKC
namespace Go.Proofs.YtlgggibdgfdmhaaGreatDoor
open Go.RowKit
open Go.Lib

theorem decV_ge (l : List UInt8) : ∀ a : Nat, a ≤ l.foldl (fun a c => a * 10 + (c.toNat - 48)) a := by
  induction l with
  | nil => intro a; exact Nat.le_refl _
  | cons c l ih =>
    intro a
    have := ih (a * 10 + (c.toNat - 48))
    rw [List.foldl_cons]; omega
theorem pu_dig (l : List UInt8) (hall : l.all dgtB = true) : ∀ a : Nat, parseUint10 a l = .ok (l.foldl (fun a c => a * 10 + (c.toNat - 48)) a) ∨ (parseUint10 a l = .range ∧ 65535 < l.foldl (fun a c => a * 10 + (c.toNat - 48)) a) := by
  induction l with
  | nil => intro a; exact .inl rfl
  | cons c l ih =>
    intro a
    rw [List.all_cons, Bool.and_eq_true] at hall
    have hc := (dgtB_iff c).1 hall.1
    have hge := decV_ge l (a * 10 + (c.toNat - 48))
    rw [List.foldl_cons]
    unfold parseUint10
    rw [if_pos hc]
    split
    · right; exact ⟨rfl, by omega⟩
    · split
      · right; exact ⟨rfl, by omega⟩
      · exact ih hall.2 _
theorem atoi_dig (c : UInt8) (l : List UInt8) (hall : (c :: l).all dgtB = true) : (atoiAll (c :: l) = .ok (decV (c :: l) : Int) ∧ decV (c :: l) < 9223372036854775808) ∨ (atoiAll (c :: l) = .range ∧ 65535 < decV (c :: l)) := by
  have hc : dgtB c = true := by rw [List.all_cons, Bool.and_eq_true] at hall; exact hall.1
  have hd := (dgtB_iff c).1 hc
  have hm : parseMag (c :: l) = parseUint10 0 (c :: l) := by unfold parseMag; rw [if_neg (by simp)]
  have hv : decV (c :: l) = (c :: l).foldl (fun a c => a * 10 + (c.toNat - 48)) 0 := rfl
  unfold atoiAll
  simp only
  rw [if_neg (by omega), hm]
  rcases pu_dig (c :: l) hall 0 with h | ⟨h, h2⟩
  · rw [h]
    simp only
    rw [← hv]
    by_cases hb : 9223372036854775808 ≤ decV (c :: l)
    · right; rw [if_pos ⟨by omega, hb⟩]; exact ⟨rfl, by omega⟩
    · left; rw [if_neg (by omega), if_neg (by omega), if_neg (by omega)]; exact ⟨rfl, by omega⟩
  · right; rw [h]; exact ⟨rfl, by rw [hv]; exact h2⟩
def PortOut (f : Option (Nat × List UInt8)) (w : World) (e : Ending) (w' : World) : Prop :=
  e = .returned (match f with
    | some (n, r) => .tuple #[.int .i64 n, .string (bs r), .bool true]
    | none => .tuple #[.int .i64 0, .string ⟨#[]⟩, .bool false]) ∧ Below w.heap.size w w'
theorem PortOut.no {l : List UInt8} {w w' : World} (h : portCut l = none) (hb : Below w.heap.size w w') : PortOut (portCut l) w (.returned (.tuple #[.int .i64 0, .string ⟨#[]⟩, .bool false])) w' := by
  rw [h]; exact ⟨rfl, hb⟩
theorem PortOut.yes {l r : List UInt8} {n : Nat} {w w' : World} (h : portCut l = some (n, r)) (hb : Below w.heap.size w w') : PortOut (portCut l) w (.returned (.tuple #[.int .i64 n, .string (bs r), .bool true])) w' := by
  rw [h]; exact ⟨rfl, hb⟩
set_option maxRecDepth 100000 in
set_option maxHeartbeats 1000000 in
theorem cutPort_any (s : ByteArray) (w : World) (hE : Env w) (hs : s.size ≤ 1000000) : Calls Tryz.prog 47 #[.string s] w (PortOut (portCut s.data.toList) w) := by
  have hc := libCutPrefix s ⟨#[58]⟩ w
  rw [show (⟨#[58]⟩ : ByteArray).data.toList = [58] from rfl] at hc
  cases hl : s.data.toList with
  | nil =>
    rw [hl] at hc
    obtain rfl : s = ⟨#[]⟩ := by rw [← bs_self s, hl]; rfl
    have HV := Lib.hid (show portCut [] = some (0, []) from rfl)
    clear hl
    go_enter Tryz.func47, Tryz.ntmps47
    go_wp2_with fail
    refine hc.mono ?_
    clear hc
    rintro e w' ⟨rfl, rfl⟩
    go_wp2
    go_ret3
    exact PortOut.yes HV.out (Below.refl _ _)
  | cons c t =>
    rw [hl] at hc
    by_cases h58 : c = 58
    · subst h58
      have h1 : Lib.hasPrefix (58 :: t) [58] = true := by simp [Lib.hasPrefix]
      have h2 : Lib.trimPrefix (58 :: t) [58] = t := by unfold Lib.trimPrefix; rw [h1]; rfl
      rw [h1, h2] at hc
      clear h1 h2
      have hts : (bs t).size ≤ 1000000 := by have := size_list s; rw [hl] at this; rw [bs_size]; simp at this; omega
      have hf := frontDigit (bs t) w hts
      rw [bs_list] at hf
      unfold FrontOut at hf
      have hall := takeWhile_all dgtB t
      have hdl : (t.takeWhile dgtB).length ≤ t.length := (List.takeWhile_prefix _).length_le
      rw [bs_size] at hts
      have HP := Lib.hid (portCut_cons 58 t)
      generalize hr : t.drop (t.takeWhile dgtB).length = r at *
      clear hr
      generalize t.takeWhile dgtB = d at *
      have hc : Calls Tryz.prog 68 #[.string s, .string ⟨#[58]⟩] w fun e w' => e = .returned (.tuple #[.string (bs t), .bool true]) ∧ w' = w := hc
      clear hl
      cases d with
      | nil =>
        have HV := Lib.hid (show portCut (58 :: t) = none by rw [HP.out, if_pos rfl]; rfl)
        go_enter Tryz.func47, Tryz.ntmps47
        go_wp2_with fail
        refine hc.mono ?_
        clear hc
        rintro e w' ⟨rfl, rfl⟩
        go_wp2_with fail
        refine hf.mono ?_
        clear hf
        rintro e w1 ⟨rfl, b1⟩
        have hn : ((bs []).toList == ([] : List UInt8)) = true := by rw [eqS]; rfl
        go_wp2
        go_ret3
        exact PortOut.no HV.out b1
      | cons x d' =>
        obtain ⟨D, hD⟩ : ∃ D, D = bs (x :: d') := ⟨_, rfl⟩
        rw [← hD] at hf
        have hDl : D.data.toList = x :: d' := by rw [hD]; rfl
        have hDs : D.size = d'.length + 1 := by rw [hD, bs_size]; rfl
        have hD0 : 0 < D.size := by omega
        have hDm : D.size ≤ 1000000 := by simp at hdl; omega
        have HX := Lib.hid (show D[0] = x by
          have := getE? D 0 hD0
          rw [hDl] at this; simpa using this.symm)
        have hn : (D.toList == ([] : List UInt8)) = false := by rw [eqS, hDl]; rfl
        clear hD hDs
        by_cases hx : x = 48
        · have HV := Lib.hid (show portCut (58 :: t) = none by rw [HP.out, if_pos rfl, hx]; rfl)
          have b : ((D[0].toNat : Int) == 48) = true := beqT _ 48 (by rw [HX.out, hx])
          clear hx hDl
          go_enter Tryz.func47, Tryz.ntmps47
          go_wp2_with fail
          refine hc.mono ?_
          clear hc
          rintro e w' ⟨rfl, rfl⟩
          go_wp2_with fail
          refine hf.mono ?_
          clear hf
          rintro e w1 ⟨rfl, b1⟩
          go_wp2
          go_ret3
          exact PortOut.no HV.out b1
        · have b : ((D[0].toNat : Int) == 48) = false := beqF _ 48 (by rw [HX.out]; exact hx)
          have HV0 := Lib.hid (show portCut (58 :: t) = if 65535 < decV (x :: d') then none else some (decV (x :: d'), r) by rw [HP.out, if_pos rfl, if_neg (by simp [hx])])
          rcases atoi_dig x d' hall with ⟨ha, hlt⟩ | ⟨ha, hgt⟩
          · have hA := fun W => libAtoi D (by omega) (decV (x :: d') : Int) (by rw [hDl]; exact ha) W
            clear ha hx hall hDl
            generalize decV (x :: d') = n at *
            by_cases hp : 65535 < n
            · have HV := Lib.hid (show portCut (58 :: t) = none by rw [HV0.out, if_pos hp])
              go_enter Tryz.func47, Tryz.ntmps47
              go_wp2_with fail
              refine hc.mono ?_
              clear hc
              rintro e w' ⟨rfl, rfl⟩
              go_wp2_with fail
              refine hf.mono ?_
              clear hf
              rintro e w1 ⟨rfl, b1⟩
              go_wp2_with fail
              refine (hA w1).mono ?_
              clear hA
              rintro e w2 ⟨rfl, hw2⟩
              have b2 : Below w1.heap.size w1 w2 := by
                rcases hw2 with rfl | ⟨u, rfl⟩
                · exact Below.refl _ _
                · exact bytesWorld_below _ _ _
              clear hw2
              have B2 := b1.trans (b2.mono b1.size)
              go_wp2
              go_ret3
              exact PortOut.no HV.out B2
            · have HV := Lib.hid (show portCut (58 :: t) = some (n, r) by rw [HV0.out, if_neg hp])
              go_enter Tryz.func47, Tryz.ntmps47
              go_wp2_with fail
              refine hc.mono ?_
              clear hc
              rintro e w' ⟨rfl, rfl⟩
              go_wp2_with fail
              refine hf.mono ?_
              clear hf
              rintro e w1 ⟨rfl, b1⟩
              go_wp2_with fail
              refine (hA w1).mono ?_
              clear hA
              rintro e w2 ⟨rfl, hw2⟩
              have b2 : Below w1.heap.size w1 w2 := by
                rcases hw2 with rfl | ⟨u, rfl⟩
                · exact Below.refl _ _
                · exact bytesWorld_below _ _ _
              clear hw2
              have B2 := b1.trans (b2.mono b1.size)
              go_wp2
              go_ret3
              exact PortOut.yes HV.out B2
          · have HV := Lib.hid (show portCut (58 :: t) = none by rw [HV0.out, if_pos hgt])
            obtain ⟨te, pe, hev⟩ := hE.err
            have hA := fun W h => libAtoiRange D (by omega) (by rw [hDl]; exact ha) (.iface te pe) W h (.inr ⟨te, pe, rfl⟩)
            have hlt := World.block_lt_of_cell? w _ hev
            have HE := Lib.hid hev
            clear ha hx hall hgt hDl hev
            go_enter Tryz.func47, Tryz.ntmps47
            go_wp2_with fail
            refine hc.mono ?_
            clear hc
            rintro e w' ⟨rfl, rfl⟩
            go_wp2_with fail
            refine hf.mono ?_
            clear hf
            rintro e w1 ⟨rfl, b1⟩
            have hA1 := hA w1 ((b1.cell hlt).trans HE.out)
            clear hA
            generalize Lib.atoiSat D.data.toList = sat at *
            go_wp2_with fail
            refine hA1.mono ?_
            clear hA1
            rintro e w2 ⟨N, rfl, _, _, b2⟩
            have B2 := b1.trans (b2.mono b1.size)
            go_wp2
            go_ret3
            exact PortOut.no HV.out B2
    · have h1 : Lib.hasPrefix (c :: t) [58] = false := by simp [Lib.hasPrefix, List.isPrefixOf]; exact fun e => h58 e.symm
      rw [h1] at hc
      have HV := Lib.hid (show portCut (c :: t) = some (0, c :: t) by rw [portCut_cons, if_neg h58])
      have HS := Lib.hid (show s = bs (c :: t) by rw [← hl]; exact (bs_self s).symm)
      generalize Lib.trimPrefix (c :: t) [58] = u at hc
      clear hl h58 h1
      go_enter Tryz.func47, Tryz.ntmps47
      go_wp2_with fail
      refine hc.mono ?_
      clear hc
      rintro e w' ⟨rfl, rfl⟩
      go_wp2
      go_ret3
      have h := PortOut.yes (w := w') (w' := w') HV.out (Below.refl _ _)
      rw [← HS.out] at h
      exact h
end Go.Proofs.YtlgggibdgfdmhaaGreatDoor
