/-
  The walk of the law EscBack of layer 2. Conditions: the library's two tables hold what they are laid with.
-/
import Derived.Test.YtoddghppbfehpaaDoorGA
namespace Go.Proofs.YtoddghppbfehpaaDoor
open Go.RowKit
open Go.Lib

theorem enc_34 (l : List Int) : 34 :: enc l ++ [34] = enc (34 :: l ++ [34]) := by
  have e : enc [34] = [34] := by decide
  rw [List.cons_append, List.cons_append, enc_cons, enc_append, e]
  have e2 : encodeRune 34 = [34] := by decide
  rw [e2]; rfl
theorem allPt_q {l : List Int} (h : AllPt l) : AllPt (34 :: l ++ [34]) := by
  intro p hp
  simp at hp
  rcases hp with rfl | hp | rfl
  · decide
  · exact h p hp
  · decide
theorem unjson_q (l : List Int) (h : AllPt l) : unjson (34 :: enc l ++ [34]) = unj (enc l) := by
  unfold unjson
  have hv : validD (34 :: enc l ++ [34]) = true := by rw [enc_34]; exact valid_enc _ (allPt_q h)
  have hq : quoted (34 :: enc l ++ [34]) = true := by
    unfold quoted
    rw [decide_eq_true_eq]
    refine ⟨by simp, by simp, ?_⟩
    rw [List.getElem?_append_right (by simp)]
    simp
  rw [if_pos ⟨hq, hv⟩]
  congr 1
  simp
theorem unjson_json (l : List UInt8) : unjson (jsonL l) = some (enc (pts l)) := by
  unfold jsonL
  rw [unjson_q _ (jsn_pt (pts_allPt l)), unj_jsn _ (pts_allPt l)]
theorem html_bytes (l : List Int) (h : AllPt l) (c : UInt8) (hc : c ∈ enc (html l)) : c ≠ 60 ∧ c ≠ 62 ∧ c ≠ 34 ∧ c ≠ 39 := by
  by_cases hlt : c.toNat < 128
  · have := html_no l _ (enc_mem _ (html_pt h) c hc hlt)
    refine ⟨?_, ?_, ?_, ?_⟩ <;> (intro e; subst e; simp at this)
  · refine ⟨?_, ?_, ?_, ?_⟩ <;> (intro e; subst e; exact hlt (by decide))
theorem json_bytes (l : List UInt8) (c : UInt8) (hc : c ∈ jsonL l) : 32 ≤ c.toNat ∧ c ≠ 60 ∧ c ≠ 62 ∧ c ≠ 38 := by
  unfold jsonL at hc
  have hc : c = 34 ∨ c ∈ enc (jsn (pts l)) := by
    rcases List.mem_append.1 hc with h | h
    · rcases List.mem_cons.1 h with h | h
      · exact .inl h
      · exact .inr h
    · exact .inl (List.mem_singleton.1 h)
  rcases hc with rfl | hc
  · decide
  · by_cases hlt : c.toNat < 128
    · have := jsn_no _ _ (enc_mem _ (jsn_pt (pts_allPt l)) c hc hlt)
      refine ⟨by omega, ?_, ?_, ?_⟩ <;> (intro e; subst e; simp at this)
    · refine ⟨by omega, ?_, ?_, ?_⟩ <;> (intro e; subst e; exact hlt (by decide))
set_option maxRecDepth 100000 in
set_option maxHeartbeats 4000000 in
theorem law_back (s : ByteArray) (w : World) (hT : Tabs w) : Calls Tryd.prog 7 #[.string s] w (Yes w) := by
  have hf := first_any w hT
  have HT := Lib.hid hT
  clear hT
  by_cases h5 : 3000 < s.size
  · go_enter Tryd.func7, Tryd.ntmps7
    go_wp2_with fail
    refine hf.mono ?_
    clear hf
    rintro e w1 ⟨rfl, B1⟩
    go_wp2
    go_ret
    exact ⟨rfl, B1⟩
  have hs : s.size ≤ 3000 := by omega
  clear h5
  have cH := fun W => html_any s W (by omega)
  have cJ := fun W => json_any s W (by omega)
  have cP := fun W => rplain_any s W (by omega)
  have cX := fun W => rfixed_any s W (by omega)
  have cQ := fun W => percent_any s W (by omega)
  have cR := fun W => rpercent_any s W (by omega)
  have hL := pts_length_le s.data.toList
  rw [← size_list] at hL
  have HA := Lib.hid (pts_allPt s.data.toList)
  have HF := Lib.hid (allPt_filter inXml (pts_allPt s.data.toList))
  have hL2 := List.length_filter_le inXml (pts s.data.toList)
  have hl3 := html_length ((pts s.data.toList).filter inXml)
  have hl4 := enc_length_le (html ((pts s.data.toList).filter inXml))
  have hj3 := jsn_length (pts s.data.toList)
  have hj4 := enc_length_le (jsn (pts s.data.toList))
  have hH : (⟨(enc (html ((pts s.data.toList).filter inXml))).toArray⟩ : ByteArray).size ≤ 80000 := by rw [size_list]; simp; omega
  have hJ : (⟨(jsonL s.data.toList).toArray⟩ : ByteArray).size ≤ 80000 := by rw [size_list]; unfold jsonL; simp; omega
  have cU := fun W => unhtml_any ⟨(enc (html ((pts s.data.toList).filter inXml))).toArray⟩ W (by omega)
  rw [show unh (⟨(enc (html ((pts s.data.toList).filter inXml))).toArray⟩ : ByteArray).data.toList = enc ((pts s.data.toList).filter inXml) from unh_html _ HF.out] at cU
  have cV := fun W h => unjson_any ⟨(jsonL s.data.toList).toArray⟩ W (by omega) h
  rw [show unjson (⟨(jsonL s.data.toList).toArray⟩ : ByteArray).data.toList = some (enc (pts s.data.toList)) from unjson_json _] at cV
  unfold UnjOut at cV
  simp only [Option.getD, Option.isSome, if_true] at cV
  have HB := Lib.hid (fun c (hc : c ∈ (⟨(enc (html ((pts s.data.toList).filter inXml))).toArray⟩ : ByteArray).data.toList) => html_bytes _ HF.out c hc)
  have JB := Lib.hid (fun c (hc : c ∈ (⟨(jsonL s.data.toList).toArray⟩ : ByteArray).data.toList) => json_bytes _ c hc)
  have cT := fun (A : Option Addr) (c : Nat) (W : World) hR => text_any A c (pts s.data.toList) W (by omega) HA.out hR
  clear hl3 hl4 hj3 hj4 HF hL2
  generalize (⟨(enc (html ((pts s.data.toList).filter inXml))).toArray⟩ : ByteArray) = H at *
  generalize (⟨(jsonL s.data.toList).toArray⟩ : ByteArray) = J at *
  generalize (⟨(enc ((pts s.data.toList).filter inXml)).toArray⟩ : ByteArray) = P at *
  generalize (⟨(enc (pts s.data.toList)).toArray⟩ : ByteArray) = X at *
  generalize (⟨(pct s.data.toList).toArray⟩ : ByteArray) = Q at *
  generalize pts s.data.toList = zs at *
  have HT2 := HT
  go_enter Tryd.func7, Tryd.ntmps7
  go_wp2_with fail
  refine hf.mono ?_
  clear hf
  rintro e w1 ⟨rfl, B1⟩
  go_wp2_with fail
  refine (cH w1).mono ?_
  clear cH
  rintro e w2 ⟨rfl, b2⟩
  have B2 := B1.trans (b2.mono B1.size)
  clear b2 B1
  go_wp2_with fail
  refine (cJ w2).mono ?_
  clear cJ
  rintro e w3 ⟨rfl, b3⟩
  have B3 := B2.trans (b3.mono B2.size)
  clear b3 B2
  have HT3 := Lib.hid (HT.out.below B3)
  have cV3 := cV w3 HT3.out
  clear cV
  go_wp2_with fail
  refine cV3.mono ?_
  clear cV3
  rintro e w4 ⟨rfl, b4⟩
  have B4 := B3.trans (b4.mono B3.size)
  clear b4 B3
  go_wp2
  go_loop [25] (fun i => ∃ k : Nat, k ≤ H.size ∧ i = .int .i64 k) (fun i => H.size - (RowKit.intOf i).toNat)
  case atStart => exact ⟨0, Nat.zero_le _, rfl⟩
  case round =>
    obtain ⟨k, hk, rfl⟩ := hrel
    by_cases hlt : k < H.size
    · have hc := HB.out H[k] (List.getElem_mem _)
      obtain ⟨h1, h2, h3, h4⟩ := hc
      have b1 : ((H[k].toNat : Int) == 60) = false := beqF _ 60 h1
      have b2 : ((H[k].toNat : Int) == 62) = false := beqF _ 62 h2
      have b3 : ((H[k].toNat : Int) == 34) = false := beqF _ 34 h3
      have b4 : ((H[k].toNat : Int) == 39) = false := beqF _ 39 h4
      clear h1 h2 h3 h4
      go_wp2
      go_round
      case rel => exact ⟨k + 1, by omega, by go_num⟩
      case measure => simp [RowKit.intOf]; omega
    · go_wp2
      go_loop [53] (fun i => ∃ k : Nat, k ≤ J.size ∧ i = .int .i64 k) (fun i => J.size - (RowKit.intOf i).toNat)
      case atStart => exact ⟨0, Nat.zero_le _, rfl⟩
      case round =>
        obtain ⟨m, hm, rfl⟩ := hrel
        by_cases hlm : m < J.size
        · have hc := JB.out J[m] (List.getElem_mem _)
          obtain ⟨h1, h2, h3, h4⟩ := hc
          have b2 : ((J[m].toNat : Int) == 60) = false := beqF _ 60 h2
          have b3 : ((J[m].toNat : Int) == 62) = false := beqF _ 62 h3
          have b4 : ((J[m].toNat : Int) == 38) = false := beqF _ 38 h4
          clear h2 h3 h4
          go_wp2
          go_round
          case rel => exact ⟨m + 1, by omega, by go_num⟩
          case measure => simp [RowKit.intOf]; omega
        · go_wp2_with fail
          refine (cU w4).mono ?_
          clear cU
          rintro e w5 ⟨rfl, b5⟩
          have B5 := B4.trans (b5.mono B4.size)
          clear b5 B4
          go_wp2_with fail
          refine (cP w5).mono ?_
          clear cP
          rintro e w6 ⟨rfl, b6⟩
          have B6 := B5.trans (b6.mono B5.size)
          clear b6 B5
          go_wp2_with fail
          refine (cX w6).mono ?_
          clear cX
          rintro e w7 ⟨A, c, rfl, hcap, hR, b7⟩
          have B7 := B6.trans (b7.mono B6.size)
          clear b7 B6
          go_wp2_with fail
          refine (cT A c w7 hR).mono ?_
          clear cT hR
          rintro e w8 ⟨rfl, b8⟩
          have B8 := B7.trans (b8.mono B7.size)
          clear b8 B7
          go_wp2_with fail
          refine (cQ w8).mono ?_
          clear cQ
          rintro e w9 ⟨rfl, b9⟩
          have B9 := B8.trans (b9.mono B8.size)
          clear b9 B8
          go_wp2_with fail
          refine (cR w9).mono ?_
          clear cR
          rintro e w10 ⟨rfl, b10⟩
          have B10 := B9.trans (b10.mono B9.size)
          clear b10 B9
          go_wp2
          go_ret
          exact ⟨rfl, B10⟩
end Go.Proofs.YtoddghppbfehpaaDoor
