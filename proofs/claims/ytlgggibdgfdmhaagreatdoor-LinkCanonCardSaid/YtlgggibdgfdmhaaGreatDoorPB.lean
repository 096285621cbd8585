/-
  The walk of the document's Dots of layer 4. Conditions: texts of at most a hundred thousand bytes.
-/
import Derived.Test.YtlgggibdgfdmhaaGreatDoorPA
namespace Go.Proofs.YtlgggibdgfdmhaaGreatDoor
open Go.RowKit
open Go.Lib

theorem ownS_take {w : World} {base g cap m : Nat} {ws : List (List UInt8)} (h : OwnS w base (.slice (some ⟨g, 0, none⟩) (m + 1) cap) ws) (hm : ws.length = m + 1) : OwnS w base (.slice (some ⟨g, 0, none⟩) m cap) ws.dropLast := by
  have hl : ws.dropLast.length = m := by rw [List.length_dropLast, hm]; rfl
  obtain ⟨h0, h1 | ⟨g', cap', cur, h1, h2, h3, h4, h5, h6, h7⟩⟩ := h
  · cases h1.1
  · simp only [Value.slice.injEq, Option.some.injEq, Addr.mk.injEq, and_true] at h1
    obtain ⟨rfl, _, rfl⟩ := h1
    unfold OwnS
    rw [hl]
    refine ⟨by rw [List.length_map, hl]; omega, .inr ⟨g, cap, cur, rfl, h2, h3, by omega, h5, h6, ?_⟩⟩
    rw [Nat.mul_one] at h7 ⊢
    rw [List.dropLast_eq_take, List.map_take, ← h7, List.take_take, hm]
    congr 1
    omega
/-- Some texts more behind a list of the call's own: those of another list. -/
theorem appSS {ops : Array Oper} {rest : List Oper} {o : Oper} {a : Act} {Q : Exit → Act → World → Prop} (hgd : o.guard = none) (s x : Operand)
    (ho : o.op = .call { callee := .builtin .append, args := #[s, x], argTypes := #[53, 53] }) (w w0 : World) (B base base2 : Nat) (v vx : Value) (ws ts : List (List UInt8))
    (hs : a.eval s = v) (hown : OwnS w base v ws) (hx : a.eval x = vx) (hownx : OwnS w base2 vx ts) (hlen : ws.length + ts.length ≤ 1000000) (hbase : base ≤ w.heap.size) (hB : B ≤ base) (hb : Below B w0 w)
    (h : ∀ v' w', OwnS w' base v' (ws ++ ts) → Below B w0 w' → w.heap.size ≤ w'.heap.size → wpList Tryz.prog ops Q rest (a.put o.dst v') w') :
    wpList Tryz.prog ops Q (o :: rest) a w := by
  obtain ⟨i0, hi, hz0, hz1, hz2⟩ := info_parts Tryz.infoS
  rcases ownS_form hownx with ⟨rfl, rfl⟩ | ⟨g, cap, rfl, hcap, hg, hc⟩
  · refine wpList_append_own_none hgd s x 53 ho base 9 i0 1 Tryz.underlying53 hi v ws.length _ hs hown hx (h v w ?_ hb (Nat.le_refl _))
    rw [List.append_nil]; exact hown
  · refine wpList_append_own _ hgd s x 53 ho base 9 i0 (.string ⟨#[]⟩) 1 16 Tryz.underlying53 hi hz0 hz1 hz2 rfl (by decide) v ws.length _ hs hown ⟨g, 0, none⟩ ts.length cap (ts.map fun x => Value.string ⟨x.toArray⟩) hx (by simp) ?_ ?_ (by unfold maxLen; omega) (by omega) hbase ?_
    · intro j u hj
      have e : (⟨g, 0, none⟩ : Addr).add j = ⟨g, 0 + j, none⟩ := by unfold Addr.add; split <;> simp_all
      rw [e]
      rw [List.getElem?_map] at hj
      cases ht : ts[j]? with
      | none => rw [ht] at hj; cases hj
      | some y =>
        rw [ht] at hj
        simp only [Option.map_some, Option.some.injEq] at hj
        rw [← hj]
        exact hc j (bs y) (by rw [List.getElem?_map, ht]; rfl)
    · intro u hu
      obtain ⟨y, _, rfl⟩ := List.mem_map.1 hu
      rfl
    · intro v' w' hown' hgrow _
      refine h v' w' ?_ ?_ hgrow.size
      · unfold OwnS
        rw [List.map_append, List.length_append]
        exact hown'
      · refine hb.grown hgrow (by omega) (fun k hk => ?_)
        have := (World.ownsRow.lt hown k hk).1
        omega
theorem OwnS.mono {w : World} {base base' : Nat} {v : Value} {ws : List (List UInt8)} (h : OwnS w base v ws) (hb : base' ≤ base) : OwnS w base' v ws := by
  obtain ⟨h0, h1 | ⟨g, cap, cur, h1, h2, h3⟩⟩ := h
  · exact ⟨h0, .inl h1⟩
  · exact ⟨h0, .inr ⟨g, cap, cur, h1, Nat.le_trans hb h2, h3⟩⟩
theorem bs_lit1' (c : UInt8) : (⟨#[c]⟩ : ByteArray) = bs [c] := rfl
theorem bs_cat' (a b : List UInt8) : bs a ++ bs b = bs (a ++ b) := by unfold bs; exact ba_cat a b
theorem flat_ne (xs : List (List UInt8)) (h : xs ≠ []) : flatL xs ≠ [] := by rw [flat_join xs h]; simp
theorem flat_take (xs : List (List UInt8)) (k : Nat) (h : k < xs.length) : flatL (xs.take (k + 1)) = flatL (xs.take k) ++ 47 :: xs[k] := by
  rw [List.take_succ_eq_append_getElem h, flat_snoc]
theorem flat_take_le (xs : List (List UInt8)) (k : Nat) : (flatL (xs.take k)).length ≤ (flatL xs).length := by
  have := List.take_append_drop k xs
  conv => rhs; rw [← this]
  unfold flatL
  rw [List.flatMap_append, List.length_append]; omega
theorem drop_cons (xs : List (List UInt8)) (k : Nat) (h : k < xs.length) : xs.drop k = xs[k] :: xs.drop (k + 1) := List.drop_eq_getElem_cons h
theorem ownS_len {w : World} {base : Nat} {v : Value} {ws : List (List UInt8)} (h : OwnS w base v ws) : ∃ A c, v = .slice A ws.length c := by
  rcases ownS_form h with ⟨rfl, rfl⟩ | ⟨g, cap, rfl, _⟩
  · exact ⟨none, 0, rfl⟩
  · exact ⟨_, _, rfl⟩
def RTx (W : World) (A : Option Addr) (ws : List (List UInt8)) : Prop := ∃ g, A = some ⟨g, 0, none⟩ ∧ g < W.heap.size ∧ ∀ (j : Nat) x, (ws.map bs)[j]? = some x → W.cell? ⟨g, 0 + j, none⟩ = some (.string x)
def sv (v : Value) : List UInt8 := match v with | .string s => s.data.toList | _ => []
theorem dgo_len (xs : List (List UInt8)) : ∀ (out : List (List UInt8)) (b : Bool), (dgo out b xs).length ≤ out.length + xs.length + 1 := by
  induction xs with
  | nil => intro out b; unfold dgo dend; split <;> simp
  | cons x r ih =>
    intro out b
    have := ih (dstep out x) (dotB x)
    have h2 : (dstep out x).length ≤ out.length + 1 := by
      unfold dstep; split
      · simp; omega
      · split <;> simp
    show (dgo (dstep out x) (dotB x) r).length ≤ _
    simp; omega
set_option maxRecDepth 100000 in
set_option maxHeartbeats 4000000 in
theorem rdots_any (s : ByteArray) (w : World) (hs : s.size ≤ 100000) : Calls Tryz.prog 17 #[.string s] w fun e w' => e = .returned (.string (bs (dotsL s.data.toList))) ∧ Below w.heap.size w w' := by
  by_cases h0 : s.size = 0
  · obtain rfl := empty_of s h0
    have HV := Lib.hid (show (⟨#[]⟩ : ByteArray) = bs (dotsL []) from rfl)
    clear h0
    go_enter Tryz.func17, Tryz.ntmps17
    go_wp2
    go_ret
    exact ⟨ret_str HV.out, Below.refl _ _⟩
  have hp : 0 < s.size := by omega
  clear h0
  have hne := list_ne s hp
  have hne2 : (s.toList == ([] : List UInt8)) = false := by simpa using hne
  have HH := Lib.hid (show s.data.toList.head? = some s[0] by rw [List.head?_eq_getElem?]; exact getE? s 0 hp)
  by_cases h47 : s[0] = 47
  case neg =>
    have b : ((s[0].toNat : Int) == 47) = false := beqF _ 47 h47
    have b2 : ((s[0].toNat : Int) != 47) = true := by rw [bne, b]; rfl
    have HV := Lib.hid (show s = bs (dotsL s.data.toList) by rw [dots_else _ (by rw [HH.out]; simpa using h47), bs_self])
    clear h47
    go_enter Tryz.func17, Tryz.ntmps17
    go_wp2
    go_ret
    exact ⟨ret_str HV.out, Below.refl _ _⟩
  have b : ((s[0].toNat : Int) == 47) = true := beqT _ 47 h47
  have b2 : ((s[0].toNat : Int) != 47) = false := by rw [bne, b]; rfl
  have hz1 : 1 ≤ s.size := by omega
  have HV := Lib.hid (dots_slash s.data.toList (by rw [HH.out, h47]))
  clear h47
  have hsp := rsplit_any (s.extract 1 s.size) 47 w (by simp; omega)
  rw [drop_extract] at hsp
  have hsl := split_length 47 (s.data.toList.drop 1)
  have hsl2 : (splitP 47 (s.data.toList.drop 1)).length ≤ 100001 := by rw [List.length_drop, ← size_list] at hsl; omega
  clear hsl
  have hsp0 := splitP_ne 47 (s.data.toList.drop 1)
  have hfl := dots_length s.data.toList
  rw [HV.out, ← size_list] at hfl
  have hdn := dgo_ne (splitP 47 (s.data.toList.drop 1)) [] false (.inr (.inr hsp0))
  have hdl := dgo_len (splitP 47 (s.data.toList.drop 1)) [] false
  generalize dotsL s.data.toList = DD at *
  generalize hxs : splitP 47 (s.data.toList.drop 1) = xs at *
  obtain ⟨T, hT⟩ : ∃ T, T = dgo [] false xs := ⟨_, rfl⟩
  have HT := Lib.hid hT.symm
  rw [← hT] at HV hfl hdn hdl
  have hTl : T.length ≤ 100003 := by simp at hdl; omega
  clear hdl
  unfold SplitOut at hsp
  rw [hxs] at hsp
  clear hxs hT
  have hsp : Calls Tryz.prog 36 #[.string (s.extract 1 s.size), .int .u8 47] w fun e w' => ∃ v, e = .returned v ∧ OwnS w' w.heap.size v xs ∧ Below w.heap.size w w' := hsp
  go_enter Tryz.func17, Tryz.ntmps17
  go_wp2_with fail
  refine hsp.mono ?_
  clear hsp
  rintro e w2 ⟨vs, rfl, hownx, B2⟩
  rcases ownS_form hownx with ⟨_, hnil⟩ | ⟨gx, capx, rfl, _, hgx, hcx⟩
  · exact absurd hnil hsp0
  have HCX := Lib.hid hcx
  clear hownx hcx hsp0
  have hzw := B2.size
  go_wp2
  go_loopw [3, 4, 22] (fun ov sl i wr => ∃ (k : Nat) (out : List (List UInt8)) (lo : Bool), k ≤ xs.length ∧ i = .int .i64 k ∧ sl = .bool lo ∧ OwnS wr w2.heap.size ov out ∧ Below w2.heap.size w2 wr ∧ out.length ≤ k ∧ Hid (dgo out lo (xs.drop k) = T)) (fun _ _ i _ => xs.length - (RowKit.intOf i).toNat)
  case atStart => exact ⟨0, [], false, Nat.zero_le _, rfl, rfl, ownS_nil _ _, Below.refl _ _, by simp, by show _ = _; exact HT.out⟩
  case round =>
    obtain ⟨k, out, lo, hk, rfl, rfl, hown, hbw, hol, hac⟩ := hrel
    have hbsz := hbw.size
    by_cases hlt : k < xs.length
    · have hx := HCX.out k (bs xs[k]) (by rw [List.getElem?_map, List.getElem?_eq_getElem hlt]; rfl)
      rw [Nat.zero_add] at hx
      have hx2 := (hbw.cell (p := ⟨gx, k, none⟩) (by exact hgx)).trans hx
      have HSTEP := Lib.hid (show dgo (dstep out xs[k]) (dotB xs[k]) (xs.drop (k + 1)) = T by rw [← hac.out, drop_cons xs k hlt]; rfl)
      have HXL := Lib.hid (show (bs xs[k]).toList = xs[k] by rw [Lib.toList_data]; rfl)
      have HXD := Lib.hid (show bs xs[k] = ⟨xs[k].toArray⟩ from rfl)
      clear hx
      generalize xs[k] = x at *
      generalize bs x = X at *
      by_cases q1 : x = [46, 46]
      · have e1 : (X.toList == ([46, 46] : List UInt8)) = true := by rw [HXL.out, q1]; rfl
        have e2 : (X.toList == ([46] : List UInt8)) = false := by rw [HXL.out, q1]; rfl
        have HS2 := Lib.hid (show dgo out.dropLast true (xs.drop (k + 1)) = T by rw [← HSTEP.out, q1]; rfl)
        clear q1
        rcases ownS_form hown with ⟨rfl, rfl⟩ | ⟨g, cap, rfl, hcap, hg, _⟩
        · go_wp2
          go_roundw
          case rel => exact ⟨k + 1, [], true, by omega, by go_num, rfl, ownS_nil _ _, hbw, by simp, HS2⟩
          case measure => simp [RowKit.intOf]; omega
        · by_cases hz : out.length = 0
          · have ho : out = [] := List.eq_nil_of_length_eq_zero hz
            subst ho
            have hl0 : ([] : List (List UInt8)).length = 0 := rfl
            rw [hl0] at hown hcap ⊢
            clear hz hl0
            go_wp2
            go_roundw
            case rel => exact ⟨k + 1, [], true, by omega, by go_num, rfl, hown, hbw, by simp, HS2⟩
            case measure => simp [RowKit.intOf]; omega
          · obtain ⟨m, hm⟩ : ∃ m, out.length = m + 1 := ⟨out.length - 1, by omega⟩
            have hown2 : OwnS wr w2.heap.size (.slice (some ⟨g, 0, none⟩) m cap) out.dropLast := ownS_take (by rw [← hm]; exact hown) hm
            have hdl2 : out.dropLast.length ≤ k + 1 := by rw [List.length_dropLast]; omega
            rw [hm] at hcap hol ⊢
            clear hm hz hown
            go_wp2
            go_roundw
            case rel => exact ⟨k + 1, out.dropLast, true, by omega, by go_num, rfl, hown2, hbw, hdl2, HS2⟩
            case measure => simp [RowKit.intOf]; omega
      · have e1 : (X.toList == ([46, 46] : List UInt8)) = false := by rw [HXL.out]; simpa using q1
        by_cases q2 : x = [46]
        · have e2 : (X.toList == ([46] : List UInt8)) = true := by rw [HXL.out, q2]; rfl
          have HS2 := Lib.hid (show dgo out true (xs.drop (k + 1)) = T by rw [← HSTEP.out, q2]; rfl)
          clear q1 q2
          go_wp2
          go_roundw
          case rel => exact ⟨k + 1, out, true, by omega, by go_num, rfl, hown, hbw, by omega, HS2⟩
          case measure => simp [RowKit.intOf]; omega
        · have e2 : (X.toList == ([46] : List UInt8)) = false := by rw [HXL.out]; simpa using q2
          have HS2 := Lib.hid (show dgo (out ++ [x]) false (xs.drop (k + 1)) = T by
            have hd : dotB x = false := by unfold dotB; rw [Bool.or_eq_false_iff, beq_eq_false_iff_ne, beq_eq_false_iff_ne]; exact ⟨q2, q1⟩
            rw [← HSTEP.out, dstep_no hd, hd])
          clear q1 q2
          obtain ⟨Ao, co, rfl⟩ := ownS_len hown
          have hownA := World.ownsRow.alloc hown (.cells #[] 9)
          have hE0 : OwnS (wr.alloc (.cells #[] 9)) wr.heap.size (.slice (some ⟨wr.heap.size, 0, none⟩) 0 0) [] := World.ownsRow_made wr #[] 0 (Nat.le_refl _) (by unfold maxLen; omega) rfl
          have BA : Below w2.heap.size w2 (wr.alloc (.cells #[] 9)) := hbw.alloc hbsz _
          go_wp2_with (at_builtin; refine appSS rfl _ _ rfl _ w2 w2.heap.size wr.heap.size w2.heap.size _ _ [] out rfl (by exact hE0) rfl (by exact hownA) (by simp; omega) (by simp) hbsz BA ?_)
          intro v3 w3 hown3 B3 hsz3
          have hz3 : wr.heap.size ≤ w3.heap.size := by first | omega | (simp at hsz3; omega)
          (try rw [List.nil_append] at hown3)
          clear hown hownA hE0 BA hbw hsz3
          go_wp2_with (at_builtin; rw [HXD.out]; refine appS rfl _ _ rfl w3 w2 w2.heap.size wr.heap.size _ out x rfl (by exact hown3) rfl (by omega) (by omega) hbsz B3 ?_)
          intro v4 w4 hown4 B4
          have hown5 := hown4.mono hbsz
          clear hown3 hown4 B3
          go_wp2
          go_roundw
          case rel => exact ⟨k + 1, out ++ [x], false, by omega, by go_num, rfl, hown5, B4, by simp; omega, HS2⟩
          case measure => simp [RowKit.intOf]; omega
    · have HEND := Lib.hid (show dend out lo = T by have := hac.out; rwa [List.drop_of_length_le (by omega)] at this)
      have hol2 : out.length ≤ 100001 := by omega
      clear hac
      have hfin : ∀ (v : Value) (W : World), OwnS W w2.heap.size v T → Below w2.heap.size w2 W → Hid (∃ A c, v = .slice A T.length c ∧ RTx W A T) := fun v W h _ => by
        rcases ownS_form h with ⟨rfl, hn⟩ | ⟨g, cap, rfl, h1, h2, h3⟩
        · exact absurd hn hdn
        · exact ⟨_, _, rfl, g, rfl, h2, h3⟩
      have BW : ∀ W, Below w2.heap.size w2 W → Hid (Below w.heap.size w W) := fun W h => B2.trans (h.mono hzw)
      cases lo with
      | false =>
        have HO := Lib.hid (show out = T from HEND.out)
        rw [HO.out] at hown
        obtain ⟨A, c, rfl, g, rfl, hg, hc⟩ := (hfin _ _ hown hbw).out
        have HC := Lib.hid hc
        have BB := (BW _ hbw).out
        clear hown hbw hfin BW hc
        go_wp2
        go_loop [7, 61] (fun sv i => ∃ (j : Nat) (o : ByteArray), j ≤ T.length ∧ i = .int .i64 j ∧ sv = .string o ∧ o.size ≤ s.size ∧ Hid (StrIs o (flatL (T.take j)))) (fun _ i => T.length - (RowKit.intOf i).toNat)
        case atStart => exact ⟨0, ⟨#[]⟩, Nat.zero_le _, rfl, rfl, by show 0 ≤ _; omega, by show _ = _; rfl⟩
        case round =>
          obtain ⟨j, o, hj, rfl, rfl, hos, hst⟩ := hrel
          have hjb : j ≤ 100003 := by omega
          by_cases hjl : j < T.length
          · have hx := HC.out j (bs T[j]) (by rw [List.getElem?_map, List.getElem?_eq_getElem hjl]; rfl)
            rw [Nat.zero_add] at hx
            have HF := Lib.hid (flat_take T j hjl)
            have hle := flat_take_le T (j + 1)
            have HS2 : Hid (StrIs (o ++ (⟨#[47]⟩ ++ bs T[j])) (flatL (T.take (j + 1)))) := by
              show _ = _
              rw [cat_list, hst.out, HF.out, bs_lit1', bs_cat']; rfl
            have hsz2 : (o ++ (⟨#[47]⟩ ++ bs T[j])).size ≤ s.size := by
              have h := congrArg List.length (show (o ++ (⟨#[47]⟩ ++ bs T[j])).data.toList = flatL (T.take (j + 1)) from HS2.out)
              rw [← size_list] at h
              omega
            have hsz3 : (bs T[j]).size ≤ s.size := by rw [ByteArray.size_append, ByteArray.size_append] at hsz2; omega
            generalize bs T[j] = X at *
            go_wp2
            go_round
            case rel => exact ⟨j + 1, _, by omega, by go_num, rfl, hsz2, HS2⟩
            case measure => simp [RowKit.intOf]; omega
          · have HE := Lib.hid (show o = bs DD by
              have h := hst.out
              rw [List.take_of_length_le (by omega)] at h
              rw [HV.out, ← h, bs_self])
            have hne3 : (o.toList == ([] : List UInt8)) = false := by
              have h := hst.out
              rw [List.take_of_length_le (by omega)] at h
              rw [eqS, show o.data.toList = flatL T from h]
              have := flat_ne T hdn
              cases hz : flatL T with
              | nil => exact absurd hz this
              | cons _ _ => rfl
            go_wp2
            go_ret
            exact ⟨ret_str HE.out, BB⟩
      | true =>
        have HO := Lib.hid (show out ++ [[]] = T from HEND.out)
        obtain ⟨Ao, co, rfl⟩ := ownS_len hown
        have hownA := World.ownsRow.alloc hown (.cells #[] 9)
        have hE0 : OwnS (wr.alloc (.cells #[] 9)) wr.heap.size (.slice (some ⟨wr.heap.size, 0, none⟩) 0 0) [] := World.ownsRow_made wr #[] 0 (Nat.le_refl _) (by unfold maxLen; omega) rfl
        have BA : Below w2.heap.size w2 (wr.alloc (.cells #[] 9)) := hbw.alloc hbsz _
        go_wp2_with (at_builtin; refine appSS rfl _ _ rfl _ w2 w2.heap.size wr.heap.size w2.heap.size _ _ [] out rfl (by exact hE0) rfl (by exact hownA) (by simp; omega) (by simp) hbsz BA ?_)
        intro v3 w3 hown3 B3 hsz3
        have hz3 : wr.heap.size ≤ w3.heap.size := by first | omega | (simp at hsz3; omega)
        (try rw [List.nil_append] at hown3)
        clear hown hownA hE0 BA hbw hsz3
        go_wp2_with (at_builtin; refine appS rfl _ _ rfl w3 w2 w2.heap.size wr.heap.size _ out [] rfl (by exact hown3) rfl (by omega) (by omega) hbsz B3 ?_)
        intro v4 w4 hown4 B4
        have hown5 := hown4.mono hbsz
        rw [HO.out] at hown5
        obtain ⟨A, c, rfl, g, rfl, hg, hc⟩ := (hfin _ _ hown5 B4).out
        have HC := Lib.hid hc
        have BB := (BW _ B4).out
        clear hown3 hown4 hown5 B3 B4 hfin BW hc
        go_wp2
        go_loop [7, 61] (fun sv i => ∃ (j : Nat) (o : ByteArray), j ≤ T.length ∧ i = .int .i64 j ∧ sv = .string o ∧ o.size ≤ s.size ∧ Hid (StrIs o (flatL (T.take j)))) (fun _ i => T.length - (RowKit.intOf i).toNat)
        case atStart => exact ⟨0, ⟨#[]⟩, Nat.zero_le _, rfl, rfl, by show 0 ≤ _; omega, by show _ = _; rfl⟩
        case round =>
          obtain ⟨j, o, hj, rfl, rfl, hos, hst⟩ := hrel
          have hjb : j ≤ 100003 := by omega
          by_cases hjl : j < T.length
          · have hx := HC.out j (bs T[j]) (by rw [List.getElem?_map, List.getElem?_eq_getElem hjl]; rfl)
            rw [Nat.zero_add] at hx
            have HF := Lib.hid (flat_take T j hjl)
            have hle := flat_take_le T (j + 1)
            have HS2 : Hid (StrIs (o ++ (⟨#[47]⟩ ++ bs T[j])) (flatL (T.take (j + 1)))) := by
              show _ = _
              rw [cat_list, hst.out, HF.out, bs_lit1', bs_cat']; rfl
            have hsz2 : (o ++ (⟨#[47]⟩ ++ bs T[j])).size ≤ s.size := by
              have h := congrArg List.length (show (o ++ (⟨#[47]⟩ ++ bs T[j])).data.toList = flatL (T.take (j + 1)) from HS2.out)
              rw [← size_list] at h
              omega
            have hsz3 : (bs T[j]).size ≤ s.size := by rw [ByteArray.size_append, ByteArray.size_append] at hsz2; omega
            generalize bs T[j] = X at *
            go_wp2
            go_round
            case rel => exact ⟨j + 1, _, by omega, by go_num, rfl, hsz2, HS2⟩
            case measure => simp [RowKit.intOf]; omega
          · have HE := Lib.hid (show o = bs DD by
              have h := hst.out
              rw [List.take_of_length_le (by omega)] at h
              rw [HV.out, ← h, bs_self])
            have hne3 : (o.toList == ([] : List UInt8)) = false := by
              have h := hst.out
              rw [List.take_of_length_le (by omega)] at h
              rw [eqS, show o.data.toList = flatL T from h]
              have := flat_ne T hdn
              cases hz : flatL T with
              | nil => exact absurd hz this
              | cons _ _ => rfl
            go_wp2
            go_ret
            exact ⟨ret_str HE.out, BB⟩
end Go.Proofs.YtlgggibdgfdmhaaGreatDoor
