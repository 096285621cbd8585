/-
  The walks of the reader's small steps: isDigit, need, take, oneOf, has. Conditions: as each says.
-/
import Derived.Test.YtocmppafmaehcaaDoorDA
import Derived.Test.YtocmppafmaehcaaDoorDShelf
namespace Go.Proofs.YtocmppafmaehcaaDoor
open Go.RowKit
open Go.Lib

theorem isDg_yes {c : UInt8} (h : isDg c = true) : 48 ≤ c.toNat ∧ c.toNat ≤ 57 := by unfold isDg at h; simpa using h
theorem isDg_no {c : UInt8} (h : isDg c = false) : ¬ (48 ≤ c.toNat ∧ c.toNat ≤ 57) := by unfold isDg at h; simpa using h
set_option maxRecDepth 100000 in
theorem isDigit_any (c : UInt8) (w : World) : Calls Tryd.prog 57 #[.int .u8 c.toNat] w fun e w' => e = .returned (.bool (isDg c)) ∧ w = w' := by
  have hc : c.toNat < 256 := UInt8.toNat_lt c
  by_cases h1 : 48 ≤ c.toNat
  · by_cases h2 : c.toNat ≤ 57
    · have HV := Lib.hid (show isDg c = true by unfold isDg; simp [h1, h2])
      have d2 : decide ((c.toNat : Int) ≤ 57) = true := by simp; omega
      go_enter Tryd.func57, Tryd.ntmps57
      go_wp2
      go_ret
      exact ⟨by rw [HV.out]; rfl, rfl⟩
    · have HV := Lib.hid (show isDg c = false by unfold isDg; simp [h2])
      have d2 : decide ((c.toNat : Int) ≤ 57) = false := by simp; omega
      go_enter Tryd.func57, Tryd.ntmps57
      go_wp2
      go_ret
      exact ⟨by rw [HV.out]; rfl, rfl⟩
  · have HV := Lib.hid (show isDg c = false by unfold isDg; simp [h1])
    have d2 : decide (48 ≤ (c.toNat : Int)) = false := by simp; omega
    go_enter Tryd.func57, Tryd.ntmps57
    go_wp2
    go_ret
    exact ⟨by rw [HV.out]; rfl, rfl⟩
/-- What need leaves. -/
def NeedOut (b : Nat) (s : ByteArray) (bad : Bool) (w : World) (e : Ending) (w' : World) : Prop := e = .returned (.tuple #[]) ∧ Rd b s bad w' ∧ w.grownBy w' (some b)
set_option maxRecDepth 100000 in
theorem need_any (b : Nat) (s : ByteArray) (bad h : Bool) (w : World) (hr : Rd b s bad w) : Calls Tryd.prog 47 #[.pointer (some ⟨b, 0, none⟩), .bool h] w (NeedOut b s (bad || !h) w) := by
  cases h with
  | true =>
    go_enter Tryd.func47, Tryd.ntmps47
    go_wp2
    go_end0
    exact ⟨rfl, by simpa using hr, World.grownBy.refl _ _⟩
  | false =>
    have hm := hr.mark
    have hf := hr.free 1
    go_enter Tryd.func47, Tryd.ntmps47
    go_wp2
    go_end0
    exact ⟨rfl, by simpa using hr.set1 true, grown_set _ _ _ _⟩

/-! take -/
def bump (k : Nat) (x : Int × List UInt8) : Int × List UInt8 := (x.1 + (k : Int), x.2)
def lists (ws : List ByteArray) : List (List UInt8) := ws.map fun s => s.data.toList
theorem bump_zero (o : Option (Int × List UInt8)) : o.map (bump 0) = o := by
  cases o with
  | none => rfl
  | some x => simp [bump]
theorem takeW_step {ws : List (List UInt8)} {l : List UInt8} {k : Nat} (hk : k < ws.length) (h : takeW ws l = (takeW (ws.drop k) l).map (bump k)) (hp : hasPrefix l ws[k] = false) :
    takeW ws l = (takeW (ws.drop (k + 1)) l).map (bump (k + 1)) := by
  rw [h, List.drop_eq_getElem_cons hk]
  unfold hasPrefix at hp
  conv => lhs; unfold takeW
  rw [if_neg (by simp [hp]), Option.map_map]
  congr 1
  funext x
  show ((x.1 + 1) + (k : Int), x.2) = (x.1 + ((k + 1 : Nat) : Int), x.2)
  rw [Int.natCast_add, Int.add_assoc, Int.add_comm 1]
  rfl
theorem takeW_hit {ws : List (List UInt8)} {l : List UInt8} {k : Nat} (hk : k < ws.length) (h : takeW ws l = (takeW (ws.drop k) l).map (bump k)) (hp : hasPrefix l ws[k] = true) :
    tkI ws l = k ∧ tkL ws l = trimPrefix l ws[k] := by
  have e : takeW (ws.drop k) l = some (0, l.drop ws[k].length) := by
    rw [List.drop_eq_getElem_cons hk]
    unfold takeW
    unfold hasPrefix at hp
    rw [if_pos hp]
  rw [e] at h
  unfold trimPrefix
  rw [if_pos hp]
  unfold tkI tkL
  rw [h]
  simp [bump]
theorem takeW_miss {ws : List (List UInt8)} {l : List UInt8} (h : takeW ws l = (takeW (ws.drop ws.length) l).map (bump ws.length)) : tkI ws l = -1 ∧ tkL ws l = l := by
  rw [List.drop_length] at h
  unfold tkI tkL
  rw [h]
  exact ⟨rfl, rfl⟩
/-- What a step leaves that answers a number. -/
def StepI (b : Nat) (bad : Bool) (f : Int × List UInt8 × Bool) (w : World) (e : Ending) (w' : World) : Prop :=
  ∃ s', e = .returned (.int .i64 f.1) ∧ s'.data.toList = f.2.1 ∧ Rd b s' (bad || !f.2.2) w' ∧ w.grownBy w' (some b)
def TakeOut (b : Nat) (bad : Bool) (ws : List (List UInt8)) (l : List UInt8) (w : World) (e : Ending) (w' : World) : Prop :=
  ∃ s', e = .returned (.int .i64 (tkI ws l)) ∧ s'.data.toList = tkL ws l ∧ Rd b s' bad w' ∧ w.grownBy w' (some b)
set_option maxRecDepth 100000 in
set_option maxHeartbeats 1000000 in
theorem take_any (b a c : Nat) (ws : List ByteArray) (s : ByteArray) (bad : Bool) (w : World) (hr : Rd b s bad w) (hw : RT w a ws) (hn : ws.length ≤ 100) (n : Nat) (hl : ws.length = n) :
    Calls Tryd.prog 58 #[.pointer (some ⟨b, 0, none⟩), .slice (some ⟨a, 0, none⟩) n c] w (TakeOut b bad (lists ws) s.data.toList w) := by
  subst hl
  have hL : (lists ws).length = ws.length := by unfold lists; simp
  have HL := Lib.hid hL
  clear hL
  have h0 := hr.left
  have hf := hr.free 0
  go_enter Tryd.func58, Tryd.ntmps58
  go_wp2
  go_loop [11] (fun i => ∃ k : Nat, k ≤ ws.length ∧ i = .int .i64 k ∧ Hid (takeW (lists ws) s.data.toList = (takeW ((lists ws).drop k) s.data.toList).map (bump k))) (fun i => ws.length - (RowKit.intOf i).toNat)
  case atStart => exact ⟨0, Nat.zero_le _, rfl, by show _ = _; rw [List.drop_zero, bump_zero]⟩
  case round =>
    obtain ⟨k, hk, rfl, hinv⟩ := hrel
    by_cases hlt : k < ws.length
    · have hx := hw k hlt
      have hg : ws.getD k default = ws[k] := by simp [List.getD, List.getElem?_eq_getElem hlt]
      rw [hg] at hx
      have HE := Lib.hid (show (lists ws)[k]'(by rw [HL.out]; exact hlt) = ws[k].data.toList by unfold lists; simp)
      clear hg
      generalize ws[k] = p at *
      clear hw
      have hcp := libCutPrefix s p w
      by_cases hp : hasPrefix s.data.toList p.data.toList = true
      · have HH := Lib.hid (takeW_hit (by rw [HL.out]; exact hlt) hinv.out (by rw [HE.out]; exact hp))
        rw [hp] at hcp
        rw [HE.out] at HH
        clear hp
        obtain ⟨q, hq⟩ : ∃ q : ByteArray, q = ⟨(trimPrefix s.data.toList p.data.toList).toArray⟩ := ⟨_, rfl⟩
        rw [← hq] at hcp
        have HQ := Lib.hid (show q.data.toList = trimPrefix s.data.toList p.data.toList by rw [hq])
        clear hq
        go_wp2_with fail
        refine hcp.mono ?_
        clear hcp
        rintro e w' ⟨rfl, rfl⟩
        go_wp2
        go_ret
        exact ⟨q, ret_int HH.out.1.symm, HQ.out.trans HH.out.2.symm, hr.set0 q, grown_set _ _ _ _⟩
      · have hp' : hasPrefix s.data.toList p.data.toList = false := by simpa using hp
        have HH := Lib.hid (takeW_step (by rw [HL.out]; exact hlt) hinv.out (by rw [HE.out]; exact hp'))
        rw [hp'] at hcp
        clear hp hp'
        generalize (⟨(trimPrefix s.data.toList p.data.toList).toArray⟩ : ByteArray) = q at *
        go_wp2_with fail
        refine hcp.mono ?_
        clear hcp
        rintro e w' ⟨rfl, rfl⟩
        go_wp2
        go_round
        case rel => exact ⟨k + 1, by omega, by go_num, HH.out⟩
        case measure => simp [RowKit.intOf]; omega
    · obtain rfl : k = ws.length := by omega
      have HH := Lib.hid (takeW_miss (ws := lists ws) (l := s.data.toList) (by have := hinv.out; rw [HL.out]; exact this))
      go_wp2
      go_ret
      exact ⟨s, ret_int HH.out.1.symm, HH.out.2.symm, hr, World.grownBy.refl _ _⟩
end Go.Proofs.YtocmppafmaehcaaDoor
