/-
  The walk of the law EscTwice of layer 2. Conditions: the library's two tables hold what they are laid with.
-/
import Derived.Test.YtoddghppbfehpaaDoorGB
import Derived.Deep.RegionHeld3
namespace Go.Proofs.YtoddghppbfehpaaDoor
open Go.RowKit
open Go.Lib

theorem ba_cat (l m : List UInt8) : (⟨l.toArray⟩ : ByteArray) ++ ⟨m.toArray⟩ = ⟨(l ++ m).toArray⟩ := by
  apply ByteArray.ext
  simp
theorem ba_self (s : ByteArray) : s = ⟨s.data.toList.toArray⟩ := by
  apply ByteArray.ext
  simp
theorem jsonL_enc (zs : List Int) (h : AllPt zs) : jsonL (enc zs) = 34 :: enc (jsn zs) ++ [34] := by
  unfold jsonL; rw [pts_enc' zs h]
theorem filter_html (zs : List Int) : (html (zs.filter inXml)).filter inXml = html (zs.filter inXml) :=
  html_xml fun _ hp => (List.mem_filter.1 hp).2
/-- What all calls of the law's last statement leave. -/
def Kept (w0 w : World) : Prop := Below w0.heap.size w0 w
theorem Kept.go {w0 w w' : World} (h : Kept w0 w) (hb : Below w.heap.size w w') : Kept w0 w' := Below.trans h (hb.mono (Below.size h))
theorem Kept.drew {w0 w : World} (h : Kept w0 w) : Kept w0 w.drew := below_drewN h 1
set_option maxRecDepth 100000 in
set_option maxHeartbeats 8000000 in
theorem law_twice (s u : ByteArray) (w : World) (hT : Tabs w) : Calls Tryd.prog 8 #[.string s, .string u] w (Yes w) := by
  have hf := first_any w hT
  clear hT
  by_cases h5 : 1500 < s.size ∨ 1500 < u.size
  · have hm : ¬ max (s.size : Int) (u.size : Int) ≤ 1500 := by omega
    have hm2 : (1500 : Int) < max (s.size : Int) (u.size : Int) := by omega
    clear h5
    go_enter Tryd.func8, Tryd.ntmps8
    go_wp2_with fail
    refine hf.mono ?_
    clear hf
    rintro e w1 ⟨rfl, B1⟩
    go_wp2
    all_goals first | (exfalso; omega) | (go_ret; exact ⟨rfl, B1⟩)
  have hs : s.size ≤ 1500 := by omega
  have hu : u.size ≤ 1500 := by omega
  have hm : max (s.size : Int) (u.size : Int) ≤ 1500 := by omega
  clear h5
  have cH := Lib.hid (fun W => html_any s W (by omega))
  have cP := Lib.hid (fun W => rplain_any s W (by omega))
  have cFa := Lib.hid (fun W => rfixed_any s W (by omega))
  have cFb := Lib.hid (fun W => rfixed_any u W (by omega))
  have cQa := Lib.hid (fun W => percent_any s W (by omega))
  have cQb := Lib.hid (fun W => percent_any u W (by omega))
  have cQc := Lib.hid (fun W => percent_any (s ++ u) W (by rw [ByteArray.size_append]; omega))
  have HA := Lib.hid (pts_allPt s.data.toList)
  have HB := Lib.hid (pts_allPt u.data.toList)
  have hla := pts_length_le s.data.toList
  have hlb := pts_length_le u.data.toList
  rw [← size_list] at hla hlb
  have eQ : (⟨(pct s.data.toList).toArray⟩ : ByteArray) ++ ⟨(pct u.data.toList).toArray⟩ = ⟨(pct (s ++ u).data.toList).toArray⟩ := by rw [ba_cat, cat_list, pct_append]
  have zQa : (⟨(pct s.data.toList).toArray⟩ : ByteArray).size ≤ 10000 := by have := pct_length s.data.toList; rw [← size_list] at this; rw [size_list]; simp; omega
  have zQb : (⟨(pct u.data.toList).toArray⟩ : ByteArray).size ≤ 10000 := by have := pct_length u.data.toList; rw [← size_list] at this; rw [size_list]; simp; omega
  generalize (⟨(pct s.data.toList).toArray⟩ : ByteArray) = Qa at *
  generalize (⟨(pct u.data.toList).toArray⟩ : ByteArray) = Qb at *
  generalize (⟨(pct (s ++ u).data.toList).toArray⟩ : ByteArray) = Qc at *
  generalize pts s.data.toList = zs at *
  generalize pts u.data.toList = ys at *
  have HF := Lib.hid (allPt_filter inXml HA.out)
  have HG := Lib.hid (allPt_filter inXml HB.out)
  have lf := List.length_filter_le inXml zs
  have lg := List.length_filter_le inXml ys
  have l1 := html_length (zs.filter inXml)
  have l2 := html_length (ys.filter inXml)
  have l3 := html_length (html (zs.filter inXml))
  have m1 := enc_length_le (html (zs.filter inXml))
  have m2 := enc_length_le (html (ys.filter inXml))
  have m3 := enc_length_le (html (html (zs.filter inXml)))
  have n1 := enc_length_le zs
  have n2 := enc_length_le ys
  have j1 := jsn_length zs
  have j2 := jsn_length ys
  have k1 := enc_length_le (jsn zs)
  have k2 := enc_length_le (jsn ys)
  have zX : (⟨(enc zs).toArray⟩ : ByteArray).size ≤ 6000 := by rw [size_list]; simp; omega
  have zY : (⟨(enc ys).toArray⟩ : ByteArray).size ≤ 6000 := by rw [size_list]; simp; omega
  have zH : (⟨(enc (html (zs.filter inXml))).toArray⟩ : ByteArray).size ≤ 36000 := by rw [size_list]; simp; omega
  have zG : (⟨(enc (html (ys.filter inXml))).toArray⟩ : ByteArray).size ≤ 36000 := by rw [size_list]; simp; omega
  have zHH : (⟨(enc (html (html (zs.filter inXml)))).toArray⟩ : ByteArray).size ≤ 216000 := by rw [size_list]; simp; omega
  have cTa := Lib.hid (fun (A : Option Addr) (c : Nat) (W : World) hR => text_any A c zs W (by omega) HA.out hR)
  have cTb := Lib.hid (fun (A : Option Addr) (c : Nat) (W : World) hR => text_any A c ys W (by omega) HB.out hR)
  have cJx := Lib.hid (fun W => json_any ⟨(enc zs).toArray⟩ W (by omega))
  have cJy := Lib.hid (fun W => json_any ⟨(enc ys).toArray⟩ W (by omega))
  have eXY : (⟨(enc zs).toArray⟩ : ByteArray) ++ ⟨(enc ys).toArray⟩ = ⟨(enc (zs ++ ys)).toArray⟩ := by rw [ba_cat, enc_append]
  have zXY : (⟨(enc (zs ++ ys)).toArray⟩ : ByteArray).size ≤ 12000 := by rw [← eXY, ByteArray.size_append]; omega
  have HAB := Lib.hid (show AllPt (zs ++ ys) from fun p hp => (List.mem_append.1 hp).elim (HA.out p) (HB.out p))
  have cJl := Lib.hid (fun W => json_any ⟨(enc (zs ++ ys)).toArray⟩ W (by omega))
  rw [show jsonL (⟨(enc zs).toArray⟩ : ByteArray).data.toList = 34 :: enc (jsn zs) ++ [34] from jsonL_enc zs HA.out] at cJx
  rw [show jsonL (⟨(enc ys).toArray⟩ : ByteArray).data.toList = 34 :: enc (jsn ys) ++ [34] from jsonL_enc ys HB.out] at cJy
  rw [show jsonL (⟨(enc (zs ++ ys)).toArray⟩ : ByteArray).data.toList = 34 :: enc (jsn (zs ++ ys)) ++ [34] from jsonL_enc _ HAB.out] at cJl
  have cHH := Lib.hid (fun W => html_any ⟨(enc (html (zs.filter inXml))).toArray⟩ W (by omega))
  rw [show (pts (⟨(enc (html (zs.filter inXml))).toArray⟩ : ByteArray).data.toList).filter inXml = html (zs.filter inXml) by
    show (pts (enc (html (zs.filter inXml)))).filter inXml = _; rw [pts_enc' _ (html_pt HF.out), filter_html]] at cHH
  have cU1 := Lib.hid (fun W => unhtml_any ⟨(enc (html (html (zs.filter inXml)))).toArray⟩ W (by omega))
  rw [show unh (⟨(enc (html (html (zs.filter inXml)))).toArray⟩ : ByteArray).data.toList = enc (html (zs.filter inXml)) from unh_html _ (html_pt HF.out)] at cU1
  have cU2 := Lib.hid (fun W => unhtml_any ⟨(enc (html (zs.filter inXml))).toArray⟩ W (by omega))
  rw [show unh (⟨(enc (html (zs.filter inXml))).toArray⟩ : ByteArray).data.toList = enc (zs.filter inXml) from unh_html _ HF.out] at cU2
  have cHx := Lib.hid (fun W => html_any ⟨(enc zs).toArray⟩ W (by omega))
  rw [show pts (⟨(enc zs).toArray⟩ : ByteArray).data.toList = zs from pts_enc' _ HA.out] at cHx
  have cHy := Lib.hid (fun W => html_any ⟨(enc ys).toArray⟩ W (by omega))
  rw [show pts (⟨(enc ys).toArray⟩ : ByteArray).data.toList = ys from pts_enc' _ HB.out] at cHy
  have cHl := Lib.hid (fun W => html_any ⟨(enc (zs ++ ys)).toArray⟩ W (by omega))
  rw [show pts (⟨(enc (zs ++ ys)).toArray⟩ : ByteArray).data.toList = zs ++ ys from pts_enc' _ HAB.out] at cHl
  have eH : (⟨(enc (html (zs.filter inXml))).toArray⟩ : ByteArray) ++ ⟨(enc (html (ys.filter inXml))).toArray⟩ = ⟨(enc (html ((zs ++ ys).filter inXml))).toArray⟩ := by
    rw [ba_cat, List.filter_append, html_append, enc_append]
  have zJ : (⟨(34 :: enc (jsn zs) ++ [34]).toArray⟩ : ByteArray).size = (enc (jsn zs)).length + 1 + 1 := by rw [size_list]; simp
  have zK : (⟨(34 :: enc (jsn ys) ++ [34]).toArray⟩ : ByteArray).size ≤ 37000 := by rw [size_list]; simp; omega
  have zK1 : 1 ≤ (⟨(34 :: enc (jsn ys) ++ [34]).toArray⟩ : ByteArray).size := by rw [size_list]; simp
  have s1 : ∀ W, (Instr.slice 9 (.string ⟨(34 :: enc (jsn zs) ++ [34]).toArray⟩) none (some (.int .i64 (((enc (jsn zs)).length + 1 : Nat) : Int))) none).run Tryd.prog W = .ok (.string ⟨(34 :: enc (jsn zs)).toArray⟩) W := fun W =>
    (run_slice_string_h (P := Tryd.prog) W 9 _ Tryd.underlying9 .i64 _ (by omega) (by rw [zJ]; omega)).trans (by
      congr 2
      refine bytes_eq _ _ ?_
      rw [show ((((enc (jsn zs)).length + 1 : Nat) : Int)).toNat = (34 :: enc (jsn zs)).length by simp, take_extract]
      exact List.take_left)
  have s2 : ∀ W, (Instr.slice 9 (.string ⟨(34 :: enc (jsn ys) ++ [34]).toArray⟩) (some (.int .i64 1)) none none).run Tryd.prog W = .ok (.string ⟨(enc (jsn ys) ++ [34]).toArray⟩) W := fun W =>
    (run_slice_string_l (P := Tryd.prog) W 9 _ Tryd.underlying9 .i64 1 (by omega) (by omega)).trans (by
      congr 2
      refine bytes_eq _ _ ?_
      rw [show (1 : Int).toNat = 1 from rfl, drop_extract]
      rfl)
  have eL : (⟨(34 :: enc (jsn zs)).toArray⟩ : ByteArray) ++ ⟨(enc (jsn ys) ++ [34]).toArray⟩ = ⟨(34 :: enc (jsn (zs ++ ys)) ++ [34]).toArray⟩ := by
    rw [ba_cat, jsn_append, enc_append]; simp
  have zJ1 : (⟨(34 :: enc (jsn zs)).toArray⟩ : ByteArray).size ≤ 37000 := by rw [size_list]; simp; omega
  have zK1' : (⟨(enc (jsn ys) ++ [34]).toArray⟩ : ByteArray).size ≤ 37000 := by rw [size_list]; simp; omega
  have hn : (enc (jsn zs)).length + 1 ≤ 37000 := by omega
  clear lf lg l1 l2 l3 m1 m2 m3 n1 n2 j1 j2 k1 k2 HF HG HAB HA HB
  generalize (⟨(34 :: enc (jsn zs) ++ [34]).toArray⟩ : ByteArray) = J at *
  generalize (⟨(34 :: enc (jsn ys) ++ [34]).toArray⟩ : ByteArray) = K at *
  generalize (⟨(34 :: enc (jsn (zs ++ ys)) ++ [34]).toArray⟩ : ByteArray) = L at *
  generalize (⟨(34 :: enc (jsn zs)).toArray⟩ : ByteArray) = J1 at *
  generalize (⟨(enc (jsn ys) ++ [34]).toArray⟩ : ByteArray) = K1 at *
  generalize (enc (jsn zs)).length + 1 = n at *
  generalize (⟨(enc (html ((zs ++ ys).filter inXml))).toArray⟩ : ByteArray) = HL at *
  generalize (⟨(enc (html (html (zs.filter inXml)))).toArray⟩ : ByteArray) = HH at *
  generalize (⟨(enc (html (zs.filter inXml))).toArray⟩ : ByteArray) = Hx at *
  generalize (⟨(enc (html (ys.filter inXml))).toArray⟩ : ByteArray) = Hy at *
  generalize (⟨(enc (zs.filter inXml)).toArray⟩ : ByteArray) = P at *
  generalize (⟨(enc (zs ++ ys)).toArray⟩ : ByteArray) = XY at *
  generalize (⟨(enc zs).toArray⟩ : ByteArray) = X at *
  generalize (⟨(enc ys).toArray⟩ : ByteArray) = Y at *
  have a1 : ∀ W, (Op.stringOp .add X Y).run Tryd.prog W = .ok (.string XY) W := fun W => by rw [run_string_add_sum W _ _ (by omega), eXY]
  have a2 : ∀ W, (Op.stringOp .add Hx Hy).run Tryd.prog W = .ok (.string HL) W := fun W => by rw [run_string_add_sum W _ _ (by omega), eH]
  have a3 : ∀ W, (Op.stringOp .add J1 K1).run Tryd.prog W = .ok (.string L) W := fun W => by rw [run_string_add_sum W _ _ (by omega), eL]
  have a4 : ∀ W, (Op.stringOp .add s u).run Tryd.prog W = .ok (.string (s ++ u)) W := fun W => run_string_add_sum W _ _ (by omega)
  have a5 : ∀ W, (Op.stringOp .add Qa Qb).run Tryd.prog W = .ok (.string Qc) W := fun W => by rw [run_string_add_sum W _ _ (by omega), eQ]
  have A1 := Lib.hid a1
  have A2 := Lib.hid a2
  have A3 := Lib.hid a3
  have A4 := Lib.hid a4
  have A5 := Lib.hid a5
  have hJn : (J.size : Int) - 1 = (n : Int) := by omega
  have hJw : IntKind.i64.wrap ((J.size : Int) - 1) = (n : Int) := by rw [hJn]; exact IntWalk.i64_in _ (by omega)
  have HJn := Lib.hid hJn
  have HJw := Lib.hid hJw
  have HS1 := Lib.hid s1
  have HS2 := Lib.hid s2
  have HZJ := Lib.hid zJ
  clear hJn hJw s1 s2 eL eH eQ zJ a1 a2 a3 a4 a5
  go_enter Tryd.func8, Tryd.ntmps8
  go_wp2_with fail
  refine hf.mono ?_
  clear hf
  rintro e w1 ⟨rfl, B1⟩
  go_wp2_with fail
  refine (cH.out w1).mono ?_
  rintro e w2 ⟨rfl, b2⟩
  have B2 := B1.trans (b2.mono B1.size)
  clear b2 B1
  go_wp2_with fail
  refine (cFa.out w2).mono ?_
  rintro e w3 ⟨A, c, rfl, hcap, hR, b3⟩
  have B3 := B2.trans (b3.mono B2.size)
  clear b3 B2
  go_wp2_with fail
  refine (cTa.out A c w3 hR).mono ?_
  clear hR
  rintro e w4 ⟨rfl, b4⟩
  have B4 := B3.trans (b4.mono B3.size)
  clear b4 B3
  go_wp2_with fail
  refine (cFb.out w4).mono ?_
  rintro e w5 ⟨A', c', rfl, hcap', hR', b5⟩
  have B5 := B4.trans (b5.mono B4.size)
  clear b5 B4
  go_wp2_with fail
  refine (cTb.out A' c' w5 hR').mono ?_
  clear hR'
  rintro e w6 ⟨rfl, b6⟩
  have B6 := B5.trans (b6.mono B5.size)
  clear b6 B5
  go_wp2_with fail
  refine (cJx.out w6).mono ?_
  rintro e w7 ⟨rfl, b7⟩
  have B7 := B6.trans (b7.mono B6.size)
  clear b7 B6
  go_wp2_with fail
  refine (cJy.out w7).mono ?_
  rintro e w8 ⟨rfl, b8⟩
  have B8 := B7.trans (b8.mono B7.size)
  clear b8 B7
  go_wp2_with fail
  refine (cJl.out w8).mono ?_
  rintro e w9 ⟨rfl, b9⟩
  have hk : Kept w w9 := B8.trans (b9.mono B8.size)
  clear b9 B8
  go_wp2_with fail
  have hJw := HJw.out
  have s1 := HS1.out
  have s2 := HS2.out
  have a1 := A1.out
  have a2 := A2.out
  have a3 := A3.out
  have a4 := A4.out
  have a5 := A5.out
  clear eXY
  go_region_held3 (fun w' => Kept w w') (first | assumption | exact Kept.go (by assumption) (by assumption) | exact Kept.drew (by assumption))
    (first
      | (go_at_call 10; (with_reducible refine (cHH.out _).mono ?_); rintro e w' ⟨rfl, b⟩)
      | (go_at_call 10; (with_reducible refine (cHl.out _).mono ?_); rintro e w' ⟨rfl, b⟩)
      | (go_at_call 10; (with_reducible refine (cHx.out _).mono ?_); rintro e w' ⟨rfl, b⟩)
      | (go_at_call 10; (with_reducible refine (cHy.out _).mono ?_); rintro e w' ⟨rfl, b⟩)
      | (go_at_call 12; (with_reducible refine (cU1.out _).mono ?_); rintro e w' ⟨rfl, b⟩)
      | (go_at_call 12; (with_reducible refine (cU2.out _).mono ?_); rintro e w' ⟨rfl, b⟩)
      | (go_at_call 18; (with_reducible refine (cP.out _).mono ?_); rintro e w' ⟨rfl, b⟩)
      | (go_at_call 21; (with_reducible refine (cQc.out _).mono ?_); rintro e w' ⟨rfl, b⟩)
      | (go_at_call 21; (with_reducible refine (cQa.out _).mono ?_); rintro e w' ⟨rfl, b⟩)
      | (go_at_call 21; (with_reducible refine (cQb.out _).mono ?_); rintro e w' ⟨rfl, b⟩))
  all_goals
    go_wp2
    go_ret
    exact ⟨rfl, by assumption⟩
end Go.Proofs.YtoddghppbfehpaaDoor
