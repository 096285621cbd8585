/-
  What the walks of layer 4 take of the library's variables; the walks of package link's small, isScheme, isMail, canonPort. Conditions: texts of at most a million bytes.
-/
import Derived.Test.YtlgggibdgfdmhaaGreatDoorKB
import Derived.Lib.ConvBytes
import Derived.Lib.AppendIntMem
namespace Go.Proofs.YtlgggibdgfdmhaaGreatDoor
open Go.RowKit
open Go.Lib

/-- The library's variables hold what they are laid with. -/
structure Env (w : World) : Prop where
  max : ∃ m, w.cell? ⟨0, 0, none⟩ = some (.int .i64 m)
  tab : TabIs Tryz.prog w "internal/strconv.uint64pow10" .u64 pow10Tab
  err : ∃ te pe, w.cell? ⟨2, 0, none⟩ = some (.iface te pe)
theorem Env.below {w w' : World} (h : Env w) (hb : Below w.heap.size w w') : Env w' := by
  obtain ⟨⟨m, hm⟩, ht, ⟨te, pe, he⟩⟩ := h
  exact ⟨⟨m, (hb.cell (World.block_lt_of_cell? w _ hm)).trans hm⟩, tabBelow_of_tabIs ht w' hb, ⟨te, pe, (hb.cell (World.block_lt_of_cell? w _ he)).trans he⟩⟩
theorem below_grow (w : World) (k : Nat) (os : Array Obj) : Below w.heap.size w (Go.Sort.grow (w.drewN k) os) := by
  refine ⟨rfl, rfl, rfl, by simp [Go.Sort.grow], fun i hi => ?_⟩
  show (w.heap ++ os)[i]? = w.heap[i]?
  rw [Array.getElem?_append_left hi]
theorem itoa_any (n : Nat) (w : World) (hE : Env w) (h1 : n ≤ 65535) : Calls Tryz.prog 54 #[.int .i64 n] w fun e w' => e = .returned (.string (bs (decDigits n))) ∧ Below w.heap.size w w' :=
  (libItoa n (by omega) (by omega) w hE.tab).mono fun _ _ ⟨h, k, os, hw⟩ => ⟨by rw [h]; unfold itoa; rw [if_neg (by omega)]; rfl, hw ▸ below_grow w k os⟩
def CutOut (l sep : List UInt8) (w : World) (e : Ending) (w' : World) : Prop := e = .returned (.tuple #[.string (bs (cut l sep).1), .string (bs (cut l sep).2.1), .bool (cut l sep).2.2]) ∧ Below w.heap.size w w'
theorem cut_any (s : ByteArray) (sep : ByteArray) (w : World) (hE : Env w) (hs : s.size ≤ 1000000) : Calls Tryz.prog 43 #[.string s, .string sep] w (CutOut s.data.toList sep.data.toList w) := by
  obtain ⟨m, hm⟩ := hE.max
  exact (libCut s sep m w (by omega) hm).mono fun _ _ ⟨h, k, hw⟩ => ⟨h, hw ▸ below_drewN (Below.refl _ _) _⟩
theorem contains_any (s : ByteArray) (c : UInt8) (w : World) (hE : Env w) (hs : s.size ≤ 1000000) : Calls Tryz.prog 50 #[.string s, .string ⟨#[c]⟩] w fun e w' => e = .returned (.bool (s.data.toList.contains c)) ∧ w = w' := by
  obtain ⟨m, hm⟩ := hE.max
  refine (libContains s ⟨#[c]⟩ m w (by omega) hm).mono fun _ _ ⟨h, hw⟩ => ⟨?_, hw.symm⟩
  rw [h]
  refine ret_bool ?_
  unfold Lib.contains
  rw [Bool.eq_iff_iff, decide_eq_true_eq]
  by_cases hc : c ∈ s.data.toList
  · obtain ⟨a, b, he, hn⟩ := first_at hc
    have hi : index s.data.toList [c] = a.length := by
      have := index_mid a b [] c hn
      rw [he]; simpa using this
    refine ⟨fun _ => by simpa using hc, fun _ => ?_⟩
    show 0 ≤ index s.data.toList [c]
    rw [hi]; omega
  · have hi := index_absent s.data.toList [] c hc
    refine ⟨fun h => ?_, fun h => absurd (by simpa using h) hc⟩
    have h : 0 ≤ index s.data.toList [c] := h
    rw [hi] at h; omega
theorem hasPrefix_any (s p : ByteArray) (w : World) : Calls Tryz.prog 34 #[.string s, .string p] w fun e w' => e = .returned (.bool (p.data.toList.isPrefixOf s.data.toList)) ∧ w = w' :=
  (libHasPrefix s p w).mono fun _ _ ⟨h, hw⟩ => ⟨h, hw.symm⟩
set_option maxRecDepth 100000 in
theorem clone_any (s : ByteArray) (w : World) (hs : s.size ≤ 1000000) : Calls Tryz.prog 23 #[.string s] w fun e w' => e = .returned (.string s) ∧ Below w.heap.size w w' := by
  go_enter Tryz.func23, Tryz.ntmps23
  go_wp2_with (go_at_call 51; refine (libClone _ _ (by omega)).mono ?_; rintro e w' ⟨rfl, hb⟩)
  go_ret
  exact ⟨rfl, hb⟩

/-- A block that holds these bytes and may be written. -/
def Arr (w : World) (b : Nat) (l : List UInt8) : Prop := b < w.heap.size ∧ ∀ j (hj : j < l.length), w.cell? ⟨b, j, none⟩ = some (.int .u8 (l[j].toNat : Int)) ∧ w.frozen? ⟨b, j, none⟩ = false
theorem Arr.set {w : World} {b : Nat} {l : List UInt8} (h : Arr w b l) (j : Nat) (hj : j < l.length) (c : UInt8) : Arr (w.setCell ⟨b, j, none⟩ (.int .u8 (c.toNat : Int))) b (l.set j c) := by
  obtain ⟨h0, h1⟩ := h
  refine ⟨by simpa using h0, fun i hi => ?_⟩
  rw [List.length_set] at hi
  have hx : w.heap[b]? = some w.heap[b] := Array.getElem?_eq_getElem h0
  have hc0 := (h1 j hj).1
  cases hb : w.heap[b] with
  | cells cs t fr =>
    rw [hb] at hx
    have hB : Blk b (.cells cs t fr) w := hx
    have hB' := hB.set j (.int .u8 (c.toNat : Int))
    have hci := (h1 i hi).1
    have hfi := (h1 i hi).2
    rw [hB.cell] at hci hc0
    refine ⟨?_, ?_⟩
    · rw [hB'.cell, Array.getElem?_setIfInBounds]
      by_cases e : j = i
      · subst e
        have : j < cs.size := (Array.getElem?_eq_some_iff.1 hc0).1
        rw [if_pos rfl, if_pos this]; simp
      · rw [if_neg e, hci, List.getElem_set_ne e]
    · unfold Blk at hB hB'
      simp [World.frozen?, hB] at hfi
      simp only [World.frozen?, hB']
      simpa using hfi
  | _ => simp [World.cell?, hx, hb] at hc0
theorem Arr.conv {w : World} {b : Nat} {l : List UInt8} (h : Arr w b l) (cap : Nat) : (convert 43 9 (.slice (some ⟨b, 0, none⟩) l.length cap)).run Tryz.prog w = .ok (.string (bs l)) w := by
  refine run_convert_bytes_back w 43 9 5 ⟨b, 0, none⟩ cap l Tryz.underlying43 Tryz.underlying5 Tryz.underlying9 fun j hj => ?_
  have e : (⟨b, 0, none⟩ : Addr).add j = ⟨b, j, none⟩ := by unfold Addr.add; split <;> simp_all
  rw [e]; exact (h.2 j hj).1
theorem arr_bytes (w : World) (s : ByteArray) : Arr (bytesWorld w 5 s) w.heap.size s.data.toList ∧ Below w.heap.size w (bytesWorld w 5 s) := by
  refine ⟨⟨by rw [bytesWorld_size]; omega, fun j hj => ?_⟩, bytesWorld_below _ _ _⟩
  have hj' : j < s.size := by rw [size_list]; exact hj
  refine ⟨?_, ?_⟩
  · rw [bytesWorld_cell w _ s j hj']
    simp [List.getD, List.getElem?_eq_getElem hj]
  · have hn := bytesWorld_at_new w 5 s
    have hsz : s.size ≤ (bytesCells w 5 s).size := by simp [bytesCells]
    simp [World.frozen?, hn]
    omega
theorem small_at (s : List UInt8) (k : Nat) (h : k < s.length) : (smallL (s.take k) ++ s.drop k).length = s.length ∧ ((smallL (s.take k) ++ s.drop k)[k]'(by simp [smallL]; omega)) = s[k] ∧ smallL (s.take (k + 1)) ++ s.drop (k + 1) = (smallL (s.take k) ++ s.drop k).set k (lowB s[k]) := by
  have hl : (smallL (s.take k)).length = k := by simp [smallL]; omega
  refine ⟨by simp [hl]; omega, ?_, ?_⟩
  · rw [List.getElem_append_right (by omega)]
    simp [hl]
  · rw [List.set_append_right _ _ (by omega), hl, Nat.sub_self]
    conv => rhs; rw [List.drop_eq_getElem_cons h]
    rw [List.set_cons_zero, List.take_succ_eq_append_getElem h]
    show (s.take k ++ [s[k]]).map lowB ++ _ = _
    rw [List.map_append, List.append_assoc]; rfl
theorem lowB_n (c : UInt8) : (65 ≤ c.toNat ∧ c.toNat ≤ 90 → ((lowB c).toNat : Int) = c.toNat + 32) ∧ (¬ (65 ≤ c.toNat ∧ c.toNat ≤ 90) → lowB c = c) := by
  have := u8_all (p := fun c => if 65 ≤ c.toNat ∧ c.toNat ≤ 90 then (lowB c).toNat == c.toNat + 32 else lowB c == c) (by decide +kernel) c
  constructor
  · intro h; rw [if_pos h] at this; have := eq_of_beq this; omega
  · intro h; rw [if_neg h] at this; exact eq_of_beq this
set_option maxRecDepth 100000 in
set_option maxHeartbeats 1000000 in
theorem small_any (s : ByteArray) (w : World) (hs : s.size ≤ 1000000) : Calls Tryz.prog 37 #[.string s] w fun e w' => e = .returned (.string (bs (smallL s.data.toList))) ∧ Below w.heap.size w w' := by
  have HL := Lib.hid (size_list s)
  have hcv := Lib.run_convert_string_bytes (P := Tryz.prog) w 9 43 5 s Tryz.underlying9 Tryz.underlying43 Tryz.underlying5
  obtain ⟨hA0, hB0⟩ := arr_bytes w s
  generalize bytesWorld w 5 s = w1 at *
  generalize grownCap w s.size 0 5 = cap at *
  go_enter Tryz.func37, Tryz.ntmps37
  go_wp2
  go_loopw [10] (fun i wr => ∃ k : Nat, k ≤ s.size ∧ i = .int .i64 k ∧ Below w.heap.size w wr ∧ Hid (Arr wr w.heap.size (smallL (s.data.toList.take k) ++ s.data.toList.drop k))) (fun i _ => s.size - (RowKit.intOf i).toNat)
  case atStart => exact ⟨0, Nat.zero_le _, rfl, hB0, by show Arr _ _ _; simpa [smallL] using hA0⟩
  case round =>
    clear hA0 hB0 hcv
    obtain ⟨k, hk, rfl, hbw, hA⟩ := hrel
    by_cases hlt : k < s.size
    · obtain ⟨e1, e2, e3'⟩ := small_at s.data.toList k (by rw [← HL.out]; exact hlt)
      have e3 : smallL (s.data.toList.take (k + 1)) ++ s.data.toList.drop (k + 1) = (smallL (s.data.toList.take k) ++ s.data.toList.drop k).set k (lowB s[k]) := e3'
      clear e3'
      have hck := hA.out.2 k (by rw [e1, ← HL.out]; exact hlt)
      rw [e2] at hck
      obtain ⟨hc0, hf⟩ := hck
      have hc : wr.cell? ⟨w.heap.size, k, none⟩ = some (.int .u8 (s[k].toNat : Int)) := hc0
      clear hc0
      have hb := UInt8.toNat_lt s[k]
      have hlow := lowB_n s[k]
      by_cases hr : 65 ≤ s[k].toNat ∧ s[k].toNat ≤ 90
      · have HV := Lib.hid (hlow.1 hr)
        have HA : Hid (Arr (wr.setCell ⟨w.heap.size, k, none⟩ (.int .u8 ((lowB s[k]).toNat : Int))) w.heap.size (smallL (s.data.toList.take (k + 1)) ++ s.data.toList.drop (k + 1))) := by
          show Arr _ _ _
          rw [e3]
          exact hA.out.set k (by rw [e1, ← HL.out]; exact hlt) _
        rw [HV.out] at HA
        obtain ⟨r1, r2⟩ := hr
        have hB1 : Below w.heap.size w (wr.setCell ⟨w.heap.size, k, none⟩ (.int .u8 ((s[k].toNat : Int) + 32))) := hbw.setCell (Nat.le_refl _) _
        have HA2 : Hid (Arr (wr.setCell ⟨w.heap.size, k, none⟩ (.int .u8 ((s[k].toNat : Int) - 65 + 97))) w.heap.size (smallL (s.data.toList.take (k + 1)) ++ s.data.toList.drop (k + 1))) := by
          rw [show (s[k].toNat : Int) - 65 + 97 = s[k].toNat + 32 by omega]; exact HA
        have hB2 : Below w.heap.size w (wr.setCell ⟨w.heap.size, k, none⟩ (.int .u8 ((s[k].toNat : Int) - 65 + 97))) := by
          rw [show (s[k].toNat : Int) - 65 + 97 = s[k].toNat + 32 by omega]; exact hB1
        clear e1 e2 e3 hlow HA hB1
        generalize s[k].toNat = n at *
        go_wp2
        go_roundw
        case rel => exact ⟨k + 1, by omega, by go_num, hB2, HA2⟩
        case measure => simp [RowKit.intOf]; omega
      · have HA : Hid (Arr wr w.heap.size (smallL (s.data.toList.take (k + 1)) ++ s.data.toList.drop (k + 1))) := by
          show Arr _ _ _
          rw [e3, hlow.2 hr]
          have h := hA.out
          rw [show (smallL (s.data.toList.take k) ++ s.data.toList.drop k).set k s[k] = smallL (s.data.toList.take k) ++ s.data.toList.drop k by
            have : s[k] = (smallL (s.data.toList.take k) ++ s.data.toList.drop k)[k]'(by rw [e1, ← HL.out]; exact hlt) := e2.symm
            rw [this, List.set_getElem_self]]
          exact h
        have hr' : ¬ 65 ≤ s[k].toNat ∨ ¬ s[k].toNat ≤ 90 := by omega
        clear e1 e2 e3 hlow hr
        generalize s[k].toNat = n at *
        rcases hr' with hr | hr
        all_goals
          go_wp2
          all_goals first | (exfalso; omega) | skip
          all_goals
            go_roundw
            case rel => exact ⟨k + 1, by omega, by go_num, hbw, HA⟩
            case measure => simp [RowKit.intOf]; omega
    · have hk2 : k = s.size := by omega
      have HA := hA.out
      rw [hk2, List.take_of_length_le (by rw [← HL.out]; omega), List.drop_of_length_le (by rw [← HL.out]; omega), List.append_nil] at HA
      have hconv := HA.conv cap
      rw [show (smallL s.data.toList).length = s.size by rw [HL.out]; simp [smallL]] at hconv
      clear hA HA hk2
      go_wp2
      go_ret
      exact ⟨rfl, hbw⟩
theorem eqS (s : ByteArray) (l : List UInt8) : (s.toList == l) = (s.data.toList == l) := by rw [Lib.toList_data]
set_option maxRecDepth 100000 in
theorem isScheme_any (s : ByteArray) (w : World) (hs : s.size ≤ 1000000) : Calls Tryz.prog 44 #[.string s] w fun e w' => e = .returned (.bool (schB s.data.toList)) ∧ Below w.heap.size w w' := by
  have hc := small_any s w hs
  have HS := Lib.hid (show schB s.data.toList = (smallL s.data.toList == [104, 116, 116, 112] || smallL s.data.toList == [104, 116, 116, 112, 115]) from rfl)
  obtain ⟨t, ht⟩ : ∃ t, t = bs (smallL s.data.toList) := ⟨_, rfl⟩
  rw [← ht] at hc
  have HT := Lib.hid (show smallL s.data.toList = t.toList by rw [Lib.toList_data, ht]; rfl)
  clear ht
  cases h1 : (t.toList == ([104, 116, 116, 112] : List UInt8)) with
  | true =>
    have HV := Lib.hid (show schB s.data.toList = true by rw [HS.out, HT.out, h1]; rfl)
    go_enter Tryz.func44, Tryz.ntmps44
    go_wp2_with fail
    refine hc.mono ?_
    clear hc
    rintro e w' ⟨rfl, hb⟩
    go_wp2
    go_ret
    exact ⟨ret_bool HV.out.symm, hb⟩
  | false =>
    cases h2 : (t.toList == ([104, 116, 116, 112, 115] : List UInt8)) with
    | true =>
      have HV := Lib.hid (show schB s.data.toList = true by rw [HS.out, HT.out, h1, h2]; rfl)
      go_enter Tryz.func44, Tryz.ntmps44
      go_wp2_with fail
      refine hc.mono ?_
      clear hc
      rintro e w' ⟨rfl, hb⟩
      go_wp2
      go_ret
      exact ⟨ret_bool HV.out.symm, hb⟩
    | false =>
      have HV := Lib.hid (show schB s.data.toList = false by rw [HS.out, HT.out, h1, h2]; rfl)
      go_enter Tryz.func44, Tryz.ntmps44
      go_wp2_with fail
      refine hc.mono ?_
      clear hc
      rintro e w' ⟨rfl, hb⟩
      go_wp2
      go_ret
      exact ⟨ret_bool HV.out.symm, hb⟩
end Go.Proofs.YtlgggibdgfdmhaaGreatDoor
