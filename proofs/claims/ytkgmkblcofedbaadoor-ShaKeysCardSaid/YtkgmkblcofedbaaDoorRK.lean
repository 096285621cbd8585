/-
  The walk of the document's Key. Conditions: at most twenty texts of at most sixty bytes.
-/
import Derived.Test.YtkgmkblcofedbaaDoorRU
import Derived.Test.YtkgmkblcofedbaaDoorRH
import Derived.Test.YtkgmkblcofedbaaDoorSK
import Derived.Lib.AppendStr
namespace Go.Proofs.YtkgmkblcofedbaaDoor
open Go.RowKit
open Go.Lib

theorem keyB_snoc (ps : List ByteArray) (k : Nat) (p : ByteArray) (hk : k < ps.length) (hp : ps.getD k default = p) : keyB (txts (ps.take (k + 1))) = (keyB (txts (ps.take k)) ++ be8 p.size) ++ p.data.toList := by
  have e : ps[k] = p := by rw [← hp]; simp [List.getD, hk]
  rw [List.take_succ_eq_append_getElem hk, e]
  simp [keyB, txts]
theorem keyB_bd (ps : List ByteArray) (h : ∀ p ∈ ps, p.size ≤ 60) (k : Nat) : (keyB (txts (ps.take k))).length ≤ 68 * k := by
  have := key_len (ps.take k) 60 (fun p hp => h p (List.mem_of_mem_take hp))
  have h2 : (ps.take k).length ≤ k := by rw [List.length_take]; omega
  omega
/-- A text more behind a list of the call's own. -/
theorem appT {ops : Array Oper} {rest : List Oper} {o : Oper} {a : Act} {Q : Exit → Act → World → Prop} (hgd : o.guard = none) (s x : Operand)
    (ho : o.op = .call { callee := .builtin .append, args := #[s, x], argTypes := #[22, 9] }) (w w0 : World) (B base : Nat) (v : Value) (l : List UInt8) (n : Nat) (hn : l.length = n) (t : ByteArray)
    (hs : a.eval s = v) (hown : OwnB w base v l) (hx : a.eval x = .string t) (hlen : n + t.size ≤ 10000000) (hbase : base ≤ w.heap.size) (hB : B ≤ base) (hb : Below B w0 w)
    (h : ∀ A c w', OwnB w' base (.slice A (n + t.size) c) (l ++ t.data.toList) → RB w' A (l ++ t.data.toList) → n + t.size ≤ c → Below B w0 w' → wpList Tryd.prog ops Q rest (a.put o.dst (.slice A (n + t.size) c)) w') :
    wpList Tryd.prog ops Q (o :: rest) a w := by
  obtain ⟨i0, hi, hz0, hz1, hz2⟩ := info_parts Tryd.infoB
  unfold OwnB at hown
  rw [hn] at hown
  refine wpList_append_own_string _ hgd s x 22 9 ho base 5 i0 Tryd.underlying22 Tryd.underlying9 hi hz0 hz1 hz2 v n _ hs hown t hx (by unfold maxLen; omega) (by omega) hbase ?_
  intro v' w' hown' hgrow _
  have hfin : OwnB w' base v' (l ++ t.data.toList) := by
    unfold OwnB
    rw [List.length_append, cellsB_append, hn, show t.data.toList.length = t.size by simp]
    exact hown'
  obtain ⟨A, c, hv, hc, hr⟩ := hfin.read
  have hl : (l ++ t.data.toList).length = n + t.size := by rw [List.length_append, hn]; simp
  rw [hl] at hv hc
  subst hv
  refine h A c w' hfin hr hc ?_
  refine hb.grown hgrow (by omega) (fun k hk => ?_)
  have := (World.ownsRow.lt hown k hk).1
  omega
set_option maxRecDepth 100000 in
set_option maxHeartbeats 4000000 in
theorem rkey_any (A : Option Addr) (c : Nat) (ps : List ByteArray) (hsz : ∀ p ∈ ps, p.size ≤ 60) (n : Nat) (hn : ps.length = n) (hn20 : n ≤ 20) (w : World) (hRT : RT w A ps) :
    Calls Tryd.prog 13 #[.slice A n c] w fun e w' => e = .returned (.string ⟨(hexP (sumP (keyB (txts ps)))).toArray⟩) ∧ Below w.heap.size w w' := by
  obtain ⟨S, hS⟩ : ∃ S : ByteArray, ⟨(hexP (sumP (keyB (txts ps)))).toArray⟩ = S := ⟨_, rfl⟩
  obtain ⟨SB, hSB⟩ : ∃ z, sumP (keyB (txts ps)) = z := ⟨_, rfl⟩
  have hSBl : SB.length = 32 := by rw [← hSB]; exact sumP_len _
  rw [hSB] at hS
  have hsum : ∀ (V : World) (A : Option Addr) (c N : Nat), (A = none → c = 0) → N ≤ c → N ≤ 4000 → (keyB (txts ps)).length = N → RB V A (keyB (txts ps)) → Calls Tryd.prog 9 #[.slice A N c] V fun e w' => (∃ A c, e = .returned (.slice A 32 c) ∧ RB w' A SB) ∧ Below V.heap.size V w' := fun V A c N hA hc hN hl hr => by
    refine (rsum_any A c (keyB (txts ps)) N hl hN hA hc V hr).mono ?_
    rintro e w' ⟨⟨v, rfl, ho⟩, hb⟩
    rw [hSB] at ho
    obtain ⟨A, c, rfl, _, hr⟩ := ho.read
    exact ⟨⟨A, c, by rw [hSBl], hr⟩, hb⟩
  have hhex : ∀ (V : World) (A : Option Addr) (c : Nat), RB V A SB → Calls Tryd.prog 11 #[.slice A 32 c] V fun e w' => e = .returned (.string S) ∧ Below V.heap.size V w' := fun V A c hr => by
    have := rhex_any A c SB 32 hSBl (by decide) V hr
    rw [hS] at this
    exact this
  rw [hSB, hS]
  have HN := Lib.hid hn
  clear hS hSB hSBl hn
  go_enter Tryd.func13, Tryd.ntmps13
  go_wp2
  go_loopw [3, 9] (fun tv ti wr => ∃ (k : Nat) (A : Option Addr) (c : Nat) (N : Nat), k ≤ n ∧ ti = .int .i64 k ∧ tv = .slice A N c ∧ OwnB wr w.heap.size (.slice A N c) (keyB (txts (ps.take k))) ∧ Hid ((keyB (txts (ps.take k))).length = N) ∧ N ≤ 68 * k ∧ N ≤ c ∧ (A = none → c = 0) ∧ RB wr A (keyB (txts (ps.take k))) ∧ Below w.heap.size w wr) (fun _ ti _ => n - (RowKit.intOf ti).toNat)
  case atStart => exact ⟨0, none, 0, 0, Nat.zero_le _, rfl, rfl, World.ownsRow_nil _ _ _ _, rfl, Nat.le_refl _, Nat.le_refl _, fun _ => rfl, RB.nil _ _, Below.refl _ _⟩
  case round =>
    obtain ⟨k, A1, c1, N, hk, rfl, rfl, hown, hNl, hN68, hNc, hA1, hrb, hbr⟩ := hrel
    have hbz := hbr.size
    by_cases hkn : k < n
    · obtain ⟨b, off, rfl, hbl, hcs⟩ := (hRT.below (Nat.le_refl _) hbr) (by rw [HN.out]; omega)
      have ck := hcs k (by rw [HN.out]; exact hkn)
      have hkp : k < ps.length := by rw [HN.out]; exact hkn
      obtain ⟨p, hp⟩ : ∃ p, ps.getD k default = p := ⟨_, rfl⟩
      have hp60 := hsz p (by rw [← hp]; simp [List.getD, hkp])
      have hsn := keyB_snoc ps k p hkp hp
      have hbd := keyB_bd ps hsz (k + 1)
      rw [hp] at ck
      obtain ⟨kb, hkb⟩ : ∃ z, keyB (txts (ps.take k)) = z := ⟨_, rfl⟩
      rw [hkb] at hown hNl hsn
      have HSN := Lib.hid hsn
      have HBD := Lib.hid hbd
      have HO := Lib.hid hown
      have hd : decide ((k : Int) < (n : Int)) = true := by simpa using (by omega : (k : Int) < n)
      clear hcs hp hkp hsn hbd hown hrb hkb
      go_wp2
      obtain ⟨V0, hV0⟩ : ∃ V0, V0 = wr := ⟨_, rfl⟩
      subst hV0
      go_loopw [3, 6] (fun tv ts wr => ∃ (m : Nat) (A : Option Addr) (c : Nat), m ≤ 8 ∧ ts = .int .i64 ((m : Int) - 1) ∧ tv = .slice A (N + (8 - m)) c ∧ OwnB wr w.heap.size (.slice A (N + (8 - m)) c) (kb ++ (be8 p.size).take (8 - m)) ∧ Below w.heap.size w wr) (fun _ ts _ => (RowKit.intOf ts + 1).toNat)
      case atStart => exact ⟨8, A1, c1, Nat.le_refl _, rfl, rfl, by rw [Nat.sub_self, List.take_zero, List.append_nil]; exact HO.out, hbr⟩
      case round =>
        clear HO hbr
        obtain ⟨m, A, c, hm, rfl, rfl, hown, hbr⟩ := hrel
        have hbz := hbr.size
        rcases m with _ | s
        · rw [show (((0 : Nat) : Int) - 1) = -1 by omega]
          obtain ⟨kb8, hkb8⟩ : ∃ z, kb ++ be8 p.size = z := ⟨_, rfl⟩
          have hown' : OwnB wr w.heap.size (.slice A (N + 8) c) kb8 := by
            have := hown
            rw [show 8 - 0 = 8 from rfl, List.take_of_length_le (by rw [be8_length]; exact Nat.le_refl _), hkb8] at this
            exact this
          have hl8 : kb8.length = N + 8 := by rw [← hkb8, List.length_append, be8_length, hNl.out]
          rw [show N + (8 - 0) = N + 8 from rfl]
          have HO := Lib.hid hown'
          have HL8 := Lib.hid hl8
          have HS2 := Lib.hid (show keyB (txts (ps.take (k + 1))) = kb8 ++ p.data.toList by rw [HSN.out, hkb8])
          clear hown hown' hkb8 hl8
          go_wp2_with (at_builtin; refine appT rfl _ _ rfl wr w w.heap.size w.heap.size _ kb8 (N + 8) HL8.out p rfl (by exact HO.out) rfl (by omega) (by omega) (Nat.le_refl _) hbr ?_)
          intro A3 c3 w3 hown3 hrb3 hc3 hb3
          have hA3 : A3 = none → c3 = 0 := fun e => by
            subst e
            rcases hown3.2 with ⟨e, _⟩ | ⟨g, cap, cur, e, _⟩
            · exact (Value.slice.inj e).2.2
            · cases (Value.slice.inj e).1
          go_wp2
          go_roundw
          case rel => exact ⟨k + 1, A3, c3, N + 8 + p.size, by omega, by go_num, rfl, by rw [HS2.out]; exact hown3, by rw [HS2.out]; show _ = _; rw [List.length_append, HL8.out]; simp, by omega, hc3, hA3, by rw [HS2.out]; exact hrb3, hb3⟩
          case measure => simp [RowKit.intOf]; omega
        · rw [show (((s + 1 : Nat) : Int) - 1) = (s : Int) by omega]
          have hs7 : s ≤ 7 := by omega
          obtain ⟨j8, hj8⟩ : ∃ q, 8 - (s + 1) = q := ⟨_, rfl⟩
          rw [hj8] at hown ⊢
          have hnx := be8_snoc p.size j8
          rw [show 56 - 8 * j8 = 8 * s by omega] at hnx
          replace hnx := hnx.resolve_right (by omega)
          obtain ⟨y, hy⟩ : ∃ q, UInt8.ofNat (p.size / 2 ^ (8 * s)) = q := ⟨_, rfl⟩
          rw [hy] at hnx
          have hyv : (p.size : Int) / 2 ^ (8 * s) % 256 = (y.toNat : Int) := by
            rw [← hy, u8_toNat, Int.natCast_ediv, Int.natCast_pow]
            rfl
          obtain ⟨T, hT⟩ : ∃ q, N + j8 = q := ⟨_, rfl⟩
          have hTl : (kb ++ (be8 p.size).take j8).length = T := by rw [List.length_append, hNl.out, List.length_take, be8_length]; omega
          rw [hT] at hown ⊢
          have HO := Lib.hid hown
          have HNX := Lib.hid (show (kb ++ (be8 p.size).take j8) ++ [y] = kb ++ (be8 p.size).take (8 - s) by rw [List.append_assoc, hnx, show j8 + 1 = 8 - s by omega])
          have HTT := Lib.hid (show N + (8 - s) = T + 1 by omega)
          have HTL := Lib.hid hTl
          have hTb : T ≤ 4200 := by omega
          obtain ⟨Pj, hPj⟩ : ∃ q, kb ++ (be8 p.size).take j8 = q := ⟨_, rfl⟩
          rw [hPj] at HO HNX HTL
          clear hown hnx hy hT hTl hPj hj8
          go_wp2_with (at_builtin; refine appB rfl _ _ rfl wr w w.heap.size w.heap.size _ Pj [y] T 1 HTL.out rfl _ rfl rfl (by exact HO.out) rfl (by omega) (by omega) (Nat.le_refl _) hbr ?_)
          intro A3 c3 w3 hown3 _ _ hb3
          go_wp2
          go_roundw
          case rel => exact ⟨s, A3, c3, by omega, rfl, by rw [HTT.out], by rw [HTT.out, ← HNX.out]; exact hown3, hb3⟩
          case measure => simp [RowKit.intOf]
    · have hkn' : k = n := by omega
      have hfull : ps.take k = ps := List.take_of_length_le (by rw [HN.out]; omega)
      rw [hfull] at hrb hNl
      have hcall := hsum wr A1 c1 N hA1 hNc (by omega) hNl.out hrb
      clear hown hrb hNl hfull hkn'
      go_wp2_with (first | (go_at_call 9; (with_reducible refine hcall.mono ?_); rintro e w4 ⟨⟨A4, c4, rfl, hr4⟩, hb4⟩) | (go_at_call 11; refine (hhex _ _ _ hr4).mono ?_; rintro e w5 ⟨rfl, hb5⟩))
      go_ret
      exact ⟨rfl, (hbr.trans (hb4.mono hbz)).trans (hb5.mono (by have := hb4.size; omega))⟩
end Go.Proofs.YtkgmkblcofedbaaDoor
