/-
  The walks of bytes.LastIndexByte (at a slash), of package link's withoutDots and Dots. Conditions: texts of at most a million bytes; the library's variables hold what they are laid with.
-/
import Derived.Test.YtlgggibdgfdmhaaGreatDoorKC
import Derived.Lib.AppendStr
namespace Go.Proofs.YtlgggibdgfdmhaaGreatDoor
open Go.RowKit
open Go.Lib

def lastS (l : List UInt8) : Int := (l.length : Int) - 1 - (l.reverse.takeWhile (fun c => c != 47)).length
theorem lastS_no (l : List UInt8) (h : 47 ∉ l) : lastS l = -1 := by
  have h2 : l.reverse.all (fun c => c != 47) = true := by
    rw [List.all_eq_true]; intro c hc
    have : c ≠ 47 := fun e => h (by rw [← e]; exact List.mem_reverse.1 hc)
    simpa using this
  have h3 := takeWhile_mid (f := fun c => c != 47) l.reverse [] h2 (fun c r e => by cases e)
  rw [List.append_nil] at h3
  unfold lastS
  rw [h3, List.length_reverse]; omega
theorem lastS_at (a x : List UInt8) (h : 47 ∉ x) : lastS (a ++ 47 :: x) = a.length := by
  have h2 : x.reverse.all (fun c => c != 47) = true := by
    rw [List.all_eq_true]; intro c hc
    have : c ≠ 47 := fun e => h (by rw [← e]; exact List.mem_reverse.1 hc)
    simpa using this
  have h3 := takeWhile_mid (f := fun c => c != 47) x.reverse (47 :: a.reverse) h2 (fun c r e => by injection e with e; rw [← e]; rfl)
  unfold lastS
  rw [show (a ++ 47 :: x).reverse = x.reverse ++ 47 :: a.reverse by simp, h3]
  simp; omega
theorem own_cell {w : World} {base g cap : Nat} {b : List UInt8} (h : OwnB w base (.slice (some ⟨g, 0, none⟩) b.length cap) b) (j : Nat) (hj : j < b.length) : w.cell? ⟨g, j, none⟩ = some (.int .u8 (b[j].toNat : Int)) := by
  have := World.ownsRow.cellAt h j (by omega)
  rw [this]
  simp [byteCells, List.getElem?_eq_getElem hj]
theorem own_form {w : World} {base : Nat} {v : Value} {b : List UInt8} (h : OwnB w base v b) : (v = .slice none 0 0 ∧ b = []) ∨ ∃ g cap, v = .slice (some ⟨g, 0, none⟩) b.length cap ∧ b.length ≤ cap ∧ cap ≤ maxLen := by
  rcases h.2 with ⟨h1, h2⟩ | ⟨g, cap, cur, h1, h2, h3, h4, h5, h6⟩
  · exact .inl ⟨h1, List.eq_nil_of_length_eq_zero h2⟩
  · exact .inr ⟨g, cap, h1, h4, h5⟩
/-- What is left of the call's own bytes. -/
theorem own_take {w : World} {base g cap : Nat} {b : List UInt8} (h : OwnB w base (.slice (some ⟨g, 0, none⟩) b.length cap) b) (k : Nat) (hk : k ≤ b.length) : OwnB w base (.slice (some ⟨g, 0, none⟩) k cap) (b.take k) := by
  have hl : (b.take k).length = k := by rw [List.length_take]; omega
  obtain ⟨h0, h1 | ⟨g', cap', cur, h1, h2, h3, h4, h5, h6, h7⟩⟩ := h
  · cases h1.1
  · simp only [Value.slice.injEq, Option.some.injEq, Addr.mk.injEq, and_true, true_and] at h1
    obtain ⟨rfl, rfl⟩ := h1
    unfold OwnB
    rw [hl]
    refine ⟨by rw [byteCells_length, hl]; omega, .inr ⟨g, cap, cur, rfl, h2, h3, by omega, h5, h6, ?_⟩⟩
    rw [Nat.mul_one] at h7 ⊢
    have : byteCells (b.take k) = (byteCells b).take k := by unfold byteCells; rw [List.map_take]
    rw [this, ← h7, List.take_take, Nat.min_eq_left hk]
set_option maxRecDepth 100000 in
set_option maxHeartbeats 1000000 in
theorem lastB_any (v : Value) (b : List UInt8) (w : World) (base : Nat) (h : OwnB w base v b) (hl : b.length ≤ 10000000) : Calls Tryz.prog 77 #[v, .int .u8 47] w fun e w' => e = .returned (.int .i64 (lastS b)) ∧ w = w' := by
  rcases own_form h with ⟨rfl, rfl⟩ | ⟨g, cap, rfl, hc, _⟩
  · clear h
    have HV := Lib.hid (show lastS [] = -1 from lastS_no [] (by simp))
    go_enter Tryz.func77, Tryz.ntmps77
    go_wp2
    go_loop [5] (fun i => i = .int .i64 (-1)) (fun _ => 0)
    case atStart => rfl
    case round =>
      subst hrel
      go_wp2
      go_ret
      exact ⟨ret_int HV.out.symm, rfl⟩
  · have hcell := fun j hj => own_cell h j hj
    have HC := Lib.hid hcell
    clear h hcell
    obtain ⟨n, hn⟩ : ∃ n, b.length = n := ⟨_, rfl⟩
    have HN := Lib.hid hn
    rw [hn] at hl hc ⊢
    clear hn
    have hst : ∃ z : Int, z = (n : Int) - 1 := ⟨_, rfl⟩
    go_enter Tryz.func77, Tryz.ntmps77
    go_wp2
    go_loop [5] (fun i => ∃ z : Int, i = .int .i64 z ∧ -1 ≤ z ∧ z < n ∧ Hid (47 ∉ b.drop (z + 1).toNat)) (fun i => (RowKit.intOf i + 1).toNat)
    case atStart => exact ⟨(n : Int) - 1, rfl, by omega, by omega, by show _ ∉ _; rw [List.drop_of_length_le (by rw [HN.out]; omega)]; simp⟩
    case round =>
      obtain ⟨z, rfl, hz0, hz1, hno⟩ := hrel
      by_cases hz : 0 ≤ z
      · obtain ⟨j, rfl⟩ : ∃ j : Nat, z = j := ⟨z.toNat, by omega⟩
        have hj : j < b.length := by rw [HN.out]; omega
        have hx := HC.out j hj
        have HD : Hid (b = b.take j ++ b[j] :: b.drop (j + 1)) := by show _ = _; rw [← List.drop_eq_getElem_cons hj, List.take_append_drop]
        have hno2 : Hid (47 ∉ b.drop (j + 1)) := hno
        by_cases h47 : b[j] = 47
        · have HV := Lib.hid (show lastS b = j by
            have := lastS_at (b.take j) (b.drop (j + 1)) hno2.out
            rw [← h47, ← HD.out] at this
            rw [this, List.length_take, Nat.min_eq_left (by omega)])
          have bb : ((b[j].toNat : Int) == 47) = true := beqT _ 47 h47
          clear h47
          generalize b[j].toNat = c at *
          go_wp2
          go_ret
          exact ⟨ret_int HV.out.symm, rfl⟩
        · have bb : ((b[j].toNat : Int) == 47) = false := beqF _ 47 h47
          have HV : Hid (47 ∉ b.drop ((j : Int) - 1 + 1).toNat) := by
            show _ ∉ _
            rw [show ((j : Int) - 1 + 1).toNat = j by omega, List.drop_eq_getElem_cons hj, List.mem_cons, not_or]
            exact ⟨fun e => h47 e.symm, hno2.out⟩
          clear h47 hno hno2
          generalize b[j].toNat = c at *
          go_wp2
          go_round
          case rel => exact ⟨(j : Int) - 1, rfl, by omega, by omega, HV⟩
          case measure => simp [RowKit.intOf]
      · have hz2 : z = -1 := by omega
        subst hz2
        have HV := Lib.hid (show lastS b = -1 from lastS_no b (by have := hno.out; simpa using this))
        go_wp2
        go_ret
        exact ⟨ret_int HV.out.symm, rfl⟩
set_option maxRecDepth 100000 in
theorem last_any (v : Value) (b : List UInt8) (w : World) (base : Nat) (h : OwnB w base v b) (hl : b.length ≤ 10000000) : Calls Tryz.prog 59 #[v, .int .u8 47] w fun e w' => e = .returned (.int .i64 (lastS b)) ∧ w = w' := by
  have hc := lastB_any v b w base h hl
  generalize lastS b = z at *
  clear h
  go_enter Tryz.func59, Tryz.ntmps59
  go_wp2_with fail
  refine hc.mono ?_
  clear hc
  rintro e w' ⟨rfl, rfl⟩
  go_wp2
  go_ret
  exact ⟨rfl, rfl⟩
/-- A text more behind a list of the call's own. -/
theorem appT {ops : Array Oper} {rest : List Oper} {o : Oper} {a : Act} {Q : Exit → Act → World → Prop} (hgd : o.guard = none) (s x : Operand)
    (ho : o.op = .call { callee := .builtin .append, args := #[s, x], argTypes := #[43, 9] }) (w w0 : World) (B base : Nat) (v : Value) (b : List UInt8) (t : ByteArray)
    (hs : a.eval s = v) (hown : OwnB w base v b) (hx : a.eval x = .string t) (hlen : b.length + t.size ≤ 10000000) (hbase : base ≤ w.heap.size) (hB : B ≤ base) (hb : Below B w0 w)
    (h : ∀ v' w', OwnB w' base v' (b ++ t.data.toList) → Below B w0 w' → wpList Tryz.prog ops Q rest (a.put o.dst v') w') :
    wpList Tryz.prog ops Q (o :: rest) a w := by
  obtain ⟨i0, hi, hz0, hz1, hz2⟩ := info_parts Tryz.infoB
  refine wpList_append_own_string _ hgd s x 43 9 ho base 5 i0 Tryz.underlying43 Tryz.underlying9 hi hz0 hz1 hz2 v b.length _ hs hown t hx (by unfold maxLen; omega) (by omega) hbase ?_
  intro v' w' hown' hgrow _
  refine h v' w' ?_ ?_
  · unfold OwnB
    rw [byteCells_append, List.length_append, ← size_list]
    exact hown'
  · refine hb.grown hgrow (by omega) (fun k hk => ?_)
    have := (World.ownsRow.lt hown k hk).1
    omega
end Go.Proofs.YtlgggibdgfdmhaaGreatDoor
