/-
  Of the proofs of layer 8 (elements of XML): the parts XAy XAz. No conditions.
-/
import Derived.Test.YtklcjimmbkpbdaaGreatDoorZ36
import Derived.Test.YtklcjimmbkpbdaaGreatDoorZ37
namespace Go.Proofs.YtklcjimmbkpbdaaGreatDoor
open Go.RowKit
open Go.Lib

theorem printX_text {v : XV} {ar : Bt} (h : v.name = []) : printX v ar = htmlB v.text := by
  obtain ⟨sp, nm, al, ks, tx⟩ := v
  have h' : nm = [] := h
  rw [printX, if_pos h']
  rfl
theorem printX_elem {v : XV} {ar : Bt} (h : v.name ≠ []) : printX v ar = (([60] ++ v.name) ++ (if v.space = ar then [] else attrP xmlnsW v.space)) ++ attrsP v.attrs ++ (if v.kids.length = 0 then [47, 62] else [62] ++ printsX v.kids v.space ++ [60, 47] ++ v.name ++ [62]) := by
  obtain ⟨sp, nm, al, ks, tx⟩ := v
  have h' : ¬ nm = [] := h
  rw [printX, if_neg h']
  show _ = (([60] ++ nm) ++ (if sp = ar then [] else attrP xmlnsW sp)) ++ attrsP al ++ (if ks.length = 0 then [47, 62] else [62] ++ printsX ks sp ++ [60, 47] ++ nm ++ [62])
  cases ks with
  | nil => simp
  | cons k l => simp
theorem attrsP_take {l : List XA} {k : Nat} (h : k < l.length) : attrsP (l.take (k + 1)) = attrsP (l.take k) ++ attrP l[k].2.1 l[k].2.2 := by
  rw [List.take_succ_eq_append_getElem h]
  simp only [attrsP, List.flatMap_append, List.flatMap_cons, List.flatMap_nil, List.append_nil]
theorem attrsP_split {l : List XA} {k : Nat} : attrsP l = attrsP (l.take k) ++ attrsP (l.drop k) := by
  unfold attrsP
  rw [← List.flatMap_append, List.take_append_drop]
theorem printsX_append (sp : Bt) : ∀ (a b : List XV), printsX (a ++ b) sp = printsX a sp ++ printsX b sp
  | [], b => by rw [List.nil_append, printsX, List.nil_append]
  | v :: a, b => by rw [List.cons_append, printsX, printsX, printsX_append sp a b, List.append_assoc]
theorem printsX_take {l : List XV} {k : Nat} (sp : Bt) (h : k < l.length) : printsX (l.take (k + 1)) sp = printsX (l.take k) sp ++ printX l[k] sp := by
  rw [List.take_succ_eq_append_getElem h, printsX_append, printsX, printsX, List.append_nil]
theorem printsX_split {l : List XV} (sp : Bt) (k : Nat) : (printsX l sp).length = (printsX (l.take k) sp).length + (printsX (l.drop k) sp).length := by
  rw [← List.length_append, ← printsX_append, List.take_append_drop]
theorem printsX_le {l : List XV} (sp : Bt) (k : Nat) : (printsX (l.take k) sp).length ≤ (printsX l sp).length := by
  have := printsX_split (l := l) sp k
  omega
theorem attrsP_le (l : List XA) (k : Nat) : (attrsP (l.take k)).length ≤ (attrsP l).length := by
  rw [attrsP_split (l := l) (k := k), List.length_append]
  omega
/-- What is written is not much longer than a node's weight. -/
theorem attrsP_len : ∀ l : List XA, (attrsP l).length ≤ 200 * wA l
  | [] => Nat.zero_le _
  | a :: l => by
    have ih := attrsP_len l
    have h := attrP_len a.2.1 a.2.2
    unfold attrsP wA at *
    rw [List.flatMap_cons, List.length_append, List.map_cons, List.sum_cons]
    omega
mutual
theorem printX_len : ∀ (v : XV) (ar : Bt), (printX v ar).length ≤ 200 * wX v
  | .mk sp nm al ks tx, ar => by
    have h1 := printsX_len ks sp
    have h2 := attrsP_len al
    have h3 := htmlB_len tx
    have h4 := attrP_len xmlnsW sp
    have h5 : xmlnsW.length = 5 := rfl
    have hw := wX_eq (.mk sp nm al ks tx)
    simp only [XV.space, XV.name, XV.text, XV.attrs, XV.kids] at hw
    rw [printX]
    split
    · omega
    · have e1 : (if sp = ar then ([] : Bt) else attrP xmlnsW sp).length ≤ 120 * sp.length + 9 := by
        split
        · exact Nat.zero_le _
        · omega
      have e2 : (if ks.isEmpty = true then ([47, 62] : Bt) else 62 :: printsX ks sp ++ [60, 47] ++ nm ++ [62]).length ≤ (printsX ks sp).length + nm.length + 4 := by
        split
        · simp only [List.length_cons, List.length_nil]; omega
        · simp only [List.length_append, List.length_cons, List.length_nil]; omega
      simp only [List.length_append, List.length_cons]
      omega
theorem printsX_len : ∀ (l : List XV) (sp : Bt), (printsX l sp).length ≤ 200 * wXs l
  | [], sp => by rw [printsX]; exact Nat.zero_le _
  | v :: l, sp => by
    have h1 := printX_len v sp
    have h2 := printsX_len l sp
    rw [printsX, wXs, List.length_append]
    omega
end
def WriteC (N : Nat) : Prop := ∀ (T : Nat → Prop) (v : XV) (x : Value) (w0 W : World) (b : Nat) (acc ar : Bt), wX v ≤ N → wX v ≤ 100000 → XR w0 T v x → BSt w0 b acc W W → acc.length + (printX v ar).length ≤ 700000000 → ML w0 →
  Calls Tryz.prog 37 #[.pointer (some ⟨b, 0, none⟩), x, .string (bs ar)] W (BWr w0 b (acc ++ printX v ar) W)
theorem write_zero : WriteC 0 := fun T v x w0 W b acc ar h _ _ _ _ _ => by
  have := wX_eq v
  omega
set_option maxRecDepth 100000 in
set_option maxHeartbeats 8000000 in
theorem write_text {T : Nat → Prop} {v : XV} {x : Value} {w0 W : World} {b : Nat} {acc : Bt} (ar : Bt) (hw : wX v ≤ 100000) (hx : XR w0 T v x) (S : BSt w0 b acc W W) (hl : acc.length + (printX v ar).length ≤ 700000000) (hn : v.name = []) :
    Calls Tryz.prog 37 #[.pointer (some ⟨b, 0, none⟩), x, .string (bs ar)] W (BWr w0 b (acc ++ printX v ar) W) := by
  have hT := isText_any (w := W.alloc (.cells #[] TNo (0, 0))) hx
  obtain ⟨aA, ac, kA, kc, rfl⟩ := xr_one hx
  have hB := below_alloc8 W (.cells #[sV v.space, sV v.name, .slice aA v.attrs.length ac, .slice kA v.kids.length kc, sV v.text] TNo (0, 0))
  have HT := Lib.hid (fun V => isText_any (w := V) hx)
  have HX := Lib.hid (Blk.new (.cells #[sV v.space, sV v.name, .slice aA v.attrs.length ac, .slice kA v.kids.length kc, sV v.text] TNo (0, 0)) W)
  have HSW := Lib.hid (S.call hB)
  have HXb : Hid (W.heap.size ≠ b) := Lib.hid (by have := S.lt; omega)
  have hnb : (v.name == []) = true := by rw [hn]; rfl
  rw [hnb] at HT
  unfold BoO at HT
  obtain ⟨t1, t2, t3, t4, t5, t6⟩ := wX_text v
  rw [printX_text hn] at hl ⊢
  have HH := Lib.hid (fun V => html8_any v.text (by omega) V)
  obtain ⟨y, hy⟩ : ∃ y, htmlB v.text = y := ⟨_, rfl⟩
  rw [hy] at HH hl ⊢
  obtain ⟨nA, hnA⟩ : ∃ n, v.attrs.length = n := ⟨_, rfl⟩
  obtain ⟨nK, hnK⟩ : ∃ n, v.kids.length = n := ⟨_, rfl⟩
  rw [hnA, hnK] at HX HSW HT
  rw [hnA, hnK]
  clear hT hx S hB hn hnb t1 t2 t3 t4 t5 t6 hw hy hnA hnK
  go_enter Tryz.func37, Tryz.ntmps37
  go_wp2_with fail
  refine (HT.out _).mono ?_
  rintro e w1 ⟨rfl, b1⟩
  have HS1 := Lib.hid (HSW.out.here.call b1)
  have x1 := HS1.out.blk HX.out HXb.out (by decide)
  have q0 := x1.cell 0; have q1 := x1.cell 1; have q2 := x1.cell 2; have q3 := x1.cell 3; have q4 := x1.cell 4
  clear b1 x1
  go_wp2_with fail
  refine (HH.out _).mono ?_
  rintro e w2 ⟨rfl, b2⟩
  have HS2 := Lib.hid (HS1.out.call b2)
  clear b2
  go_wp2_with fail
  refine (wS8 HS2.out y (by omega)).mono ?_
  rintro e w3 ⟨⟨z3, rfl⟩, s3⟩
  have HS3 := Lib.hid (HSW.out.comp s3)
  clear s3
  go_wp2
  first | go_end0 | refine bodyPost_ret (results_none rfl _ _ _) rfl ?_
  exact ⟨rfl, HS3.out⟩
set_option maxRecDepth 100000 in
set_option maxHeartbeats 16000000 in
theorem write_elem {N : Nat} (IH : WriteC N) {T : Nat → Prop} {v : XV} {x : Value} {w0 W : World} {b : Nat} {acc ar : Bt} (hN : wX v ≤ N + 1) (hw : wX v ≤ 100000) (hx : XR w0 T v x) (S : BSt w0 b acc W W) (hl : acc.length + (printX v ar).length ≤ 700000000) (hm : ML w0) (hn : v.name ≠ []) :
    Calls Tryz.prog 37 #[.pointer (some ⟨b, 0, none⟩), x, .string (bs ar)] W (BWr w0 b (acc ++ printX v ar) W) := by
  have hat : ∃ aA ac kA kc, x = .agg #[sV v.space, sV v.name, .slice aA v.attrs.length ac, .slice kA v.kids.length kc, sV v.text] ∧ RC w0 T aA (cA v.attrs) ∧ RN8 w0 T kA v.kids := by
    obtain ⟨sp, nm, al, ks, tx⟩ := v
    exact XR.attrs hx
  have hT0 := fun V => isText_any (w := V) hx
  obtain ⟨aA, ac, kA, kc, rfl, hR, hK⟩ := hat
  have HT := Lib.hid hT0
  have hB := below_alloc8 W (.cells #[sV v.space, sV v.name, .slice aA v.attrs.length ac, .slice kA v.kids.length kc, sV v.text] TNo (0, 0))
  have HX := Lib.hid (Blk.new (.cells #[sV v.space, sV v.name, .slice aA v.attrs.length ac, .slice kA v.kids.length kc, sV v.text] TNo (0, 0)) W)
  have HSW := Lib.hid (S.call hB)
  have HXb : Hid (W.heap.size ≠ b) := Lib.hid (by have := S.lt; omega)
  have hnb : (v.name == []) = false := beq_false_of_ne hn
  rw [hnb] at HT
  unfold BoO at HT
  obtain ⟨t1, t2, t3, t4, t5, t6⟩ := wX_text v
  have hsm := wX_attrs hw
  have hwe := wX_eq v
  rw [printX_elem hn] at hl
  rw [printX_elem hn]
  obtain ⟨sp, hsp⟩ : ∃ s, v.space = s := ⟨_, rfl⟩
  obtain ⟨nm, hnm⟩ : ∃ s, v.name = s := ⟨_, rfl⟩
  obtain ⟨al, hal⟩ : ∃ s, v.attrs = s := ⟨_, rfl⟩
  obtain ⟨ks, hks⟩ : ∃ s, v.kids = s := ⟨_, rfl⟩
  obtain ⟨tx, htx⟩ : ∃ s, v.text = s := ⟨_, rfl⟩
  rw [hsp, hnm, hal, hks, htx] at HX HSW HT
  rw [hal] at hR hsm
  rw [hks] at hK t6
  rw [hsp] at t1
  rw [hnm] at t2
  rw [hsp, hnm, hal, hks] at hl ⊢
  rw [htx]
  rw [hks] at hwe
  have HR := Lib.hid hR
  have HK := Lib.hid hK
  have HM := Lib.hid hm
  have HSM := Lib.hid hsm
  have HIH := Lib.hid IH
  have HWK : Hid (wXs ks ≤ N ∧ wXs ks ≤ 100000) := Lib.hid ⟨by omega, by omega⟩
  obtain ⟨nA, hnA⟩ : ∃ n, al.length = n := ⟨_, rfl⟩
  obtain ⟨nK, hnK⟩ : ∃ n, ks.length = n := ⟨_, rfl⟩
  have HNA := Lib.hid hnA
  have HNK := Lib.hid hnK
  rw [hnA, hnK] at HX HSW HT
  rw [hnK] at hl ⊢
  have hnAb : nA ≤ 100000 := by rw [← hnA, ← hal]; omega
  have hnKb : nK ≤ 100000 := by rw [← hnK, ← hks]; omega
  rw [hnA]
  have hsp9 : sp.length ≤ 100000 := by omega
  have hnm9 : nm.length ≤ 100000 := by omega
  clear hx S hB hn hnb t1 t2 t3 t4 t5 t6 hw hT0 hR hK hm hsm IH hN hwe hnA hnK
  clear hsp hnm hal hks htx
  obtain ⟨OUT, hOUT⟩ : ∃ o, acc ++ ((([60] ++ nm) ++ (if sp = ar then [] else attrP xmlnsW sp)) ++ attrsP al ++ (if nK = 0 then [47, 62] else [62] ++ printsX ks sp ++ [60, 47] ++ nm ++ [62])) = o := ⟨_, rfl⟩
  rw [hOUT]
  obtain ⟨P2, hP2⟩ : ∃ p, (if sp = ar then ([] : Bt) else attrP xmlnsW sp) = p := ⟨_, rfl⟩
  rw [hP2] at hl hOUT
  have HOUT := Lib.hid hOUT.symm
  have HP2 := Lib.hid hP2
  have hA1 : acc.length + 1 + nm.length + P2.length + (attrsP al).length + (if nK = 0 then ([47, 62] : Bt) else [62] ++ printsX ks sp ++ [60, 47] ++ nm ++ [62]).length ≤ 700000000 := by
    simp only [List.length_append, List.length_cons, List.length_nil] at hl
    omega
  have HA1 := Lib.hid hA1
  have hA2 : acc.length + 1 + nm.length + P2.length + (attrsP al).length ≤ 700000000 := by omega
  clear hl hA1 hP2 hOUT
  go_enter Tryz.func37, Tryz.ntmps37
  go_wp2_with fail
  refine (HT.out _).mono ?_
  rintro e w1 ⟨rfl, b1⟩
  have HS1 := Lib.hid (HSW.out.here.call b1)
  have x1 := HS1.out.blk HX.out HXb.out (by decide)
  have q0 := x1.cell 0; have q1 := x1.cell 1; have q2 := x1.cell 2; have q3 := x1.cell 3; have q4 := x1.cell 4
  clear b1 x1 HT
  go_wp2_with fail
  refine (wB8 HS1.out 60 60 rfl (by omega)).mono ?_
  rintro e w2 ⟨rfl, s2⟩
  have HS2 := Lib.hid s2
  have x2 := s2.blk HX.out HXb.out (by decide)
  have q0 := x2.cell 0; have q1 := x2.cell 1; have q2 := x2.cell 2; have q3 := x2.cell 3; have q4 := x2.cell 4
  clear s2 x2 
  go_wp2_with fail
  refine (wS8 HS2.out nm (by simp only [List.length_append, List.length_cons, List.length_nil]; omega)).mono ?_
  rintro e w3 ⟨⟨z3, rfl⟩, s3⟩
  have HS3 := Lib.hid s3
  have x3 := s3.blk HX.out HXb.out (by decide)
  have q0 := x3.cell 0; have q1 := x3.cell 1; have q2 := x3.cell 2; have q3 := x3.cell 3; have q4 := x3.cell 4
  clear s3 x3 
  have HAT : ∀ (w4 : World), Hid (BSt w0 b (((acc ++ [60]) ++ nm) ++ P2) (W.alloc (.cells #[sV sp, sV nm, .slice aA nA ac, .slice kA nK kc, sV tx] TNo (0, 0))) w4) → True := fun _ _ => trivial
  clear HAT
  by_cases hsa : sp = ar
  · have hp2 : P2 = [] := by rw [← HP2.out, if_pos hsa]
    have hsq : ((bs sp).toList == (bs ar).toList) = true := by rw [hsa]; exact beq_self_eq_true _
    have hsq2 : (bs sp).toList = (bs ar).toList := by rw [hsa]
    have HS4 : Hid (BSt w0 b (((acc ++ [60]) ++ nm) ++ P2) (W.alloc (.cells #[sV sp, sV nm, .slice aA nA ac, .slice kA nK kc, sV tx] TNo (0, 0))) w3) := Lib.hid (by rw [hp2, List.append_nil]; exact HS3.out)
    clear HS3 hsa hp2
    go_wp2
    go_loopw [34] (fun i wr => ∃ k : Nat, k ≤ nA ∧ i = .int .i64 k ∧ Hid (BSt w0 b ((((acc ++ [60]) ++ nm) ++ P2) ++ attrsP (al.take k)) (W.alloc (.cells #[sV sp, sV nm, .slice aA nA ac, .slice kA nK kc, sV tx] TNo (0, 0))) wr)) (fun i _ => nA - (RowKit.intOf i).toNat)
    case atStart => exact ⟨0, Nat.zero_le _, rfl, Lib.hid (by rw [List.take_zero]; show BSt w0 b ((((acc ++ [60]) ++ nm) ++ P2) ++ []) _ _; rw [List.append_nil]; exact HS4.out)⟩
    case round =>
      clear HS4
      obtain ⟨k, hk, rfl, HSK⟩ := hrel
      have xk := HSK.out.blk HX.out HXb.out (by decide)
      have p0 := xk.cell 0
      have p1 := xk.cell 1
      have p2 := xk.cell 2
      have p3 := xk.cell 3
      have p4 := xk.cell 4
      by_cases hlt : k < nA
      · have hkl : k < al.length := by rw [HNA.out]; exact hlt
        obtain ⟨bb, off, hAe, hT, hbl, hcl⟩ := HR.out (by rw [cA_len]; omega)
        obtain ⟨c0, c1, c2⟩ := RC.a3 hcl k hkl
        have hsa := HSM.out _ (List.getElem_mem hkl)
        have HTK := Lib.hid (attrsP_take hkl)
        have hLk := attrsP_le al (k + 1)
        have hLk1 := attrsP_le al k
        obtain ⟨a, ha⟩ : ∃ a, al[k] = a := ⟨_, rfl⟩
        rw [ha] at c0 c1 c2 hsa HTK
        have y0 := HSK.out.cell (p := ⟨bb, off + k * 3, none⟩) hbl c0
        have y1 := HSK.out.cell (p := ⟨bb, off + k * 3 + 1, none⟩) hbl c1
        have y2 := HSK.out.cell (p := ⟨bb, off + k * 3 + 2, none⟩) hbl c2
        subst hAe
        obtain ⟨⟨asp, anm, avl⟩, rfl⟩ : ∃ x : XA, a = x := ⟨_, rfl⟩
        simp only at y0 y1 y2 hsa HTK
        have HSB := Lib.hid (HSK.out.call (below_alloc8 wr (.cells #[sV asp, sV anm, sV avl] TA3 (0, 0))))
        clear c0 c1 c2 hcl ha xk
        have hLx : ((((acc ++ [60]) ++ nm) ++ P2) ++ attrsP (al.take k)).length ≤ 700000000 := by simp only [List.length_append, List.length_cons, List.length_nil]; omega
        have HWA := Lib.hid (writeAttr_any HSB.out anm avl (by omega) (by omega) (by omega) HM.out)
        unfold BWr at HWA
        clear hLx
        go_wp2_with (go_at_call 69; (with_reducible refine HWA.out.mono ?_); rintro e w6 ⟨rfl, s6⟩; have HS6 := Lib.hid s6; clear s6)
        go_roundw
        case rel => exact ⟨k + 1, by omega, by go_num, Lib.hid (by rw [HTK.out, ← List.append_assoc]; exact HS6.out)⟩
        case measure => simp [RowKit.intOf]; omega
      · obtain rfl : nA = k := by omega
        have htk : al.take nA = al := List.take_of_length_le (by rw [HNA.out]; exact Nat.le_refl _)
        rw [htk] at HSK
        clear htk hlt xk hk
        obtain ⟨P3, hP3⟩ : ∃ p, attrsP al = p := ⟨_, rfl⟩
        rw [hP3] at HA1 HSK hA2 HOUT
        clear hP3
        by_cases hk0 : nK = 0
        · subst hk0
          rw [if_pos rfl] at HA1 HOUT
          go_wp2_with fail
          refine (wS8 HSK.out [47, 62] (by simp only [List.length_append, List.length_cons, List.length_nil]; omega)).mono ?_
          rintro e w7 ⟨⟨z7, rfl⟩, s7⟩
          have HS7 := Lib.hid (HSW.out.comp s7)
          clear s7
          go_wp2
          first | go_end0 | refine bodyPost_ret (results_none rfl _ _ _) rfl ?_
          exact ⟨rfl, by rw [HOUT.out]; have := HS7.out; simpa [List.append_assoc] using this⟩
        · have hk0b : ((nK : Int) == 0) = false := by rw [beq_eq_false_iff_ne]; omega
          have hk0c : ¬ ((nK : Int) = 0) := by omega
          rw [if_neg hk0] at HA1 HOUT
          have hA3 : acc.length + 1 + nm.length + P2.length + P3.length + 1 + (printsX ks sp).length + 2 + nm.length + 1 ≤ 700000000 := by
            have := HA1.out
            simp only [List.length_append, List.length_cons, List.length_nil] at this
            omega
          go_wp2_with fail
          refine (wB8 HSK.out 62 62 rfl (by simp only [List.length_append, List.length_cons, List.length_nil]; omega)).mono ?_
          rintro e w8 ⟨rfl, s8⟩
          have HS8 := Lib.hid s8
          have x8 := s8.blk HX.out HXb.out (by decide)
          have q0 := x8.cell 0
          have q1 := x8.cell 1
          have q2 := x8.cell 2
          have q3 := x8.cell 3
          have q4 := x8.cell 4
          clear s8 x8
          go_wp2
          go_loopw [56] (fun i wr => ∃ k : Nat, k ≤ nK ∧ i = .int .i64 k ∧ Hid (BSt w0 b ((((((acc ++ [60]) ++ nm) ++ P2) ++ P3) ++ [62]) ++ printsX (ks.take k) sp) (W.alloc (.cells #[sV sp, sV nm, .slice aA nA ac, .slice kA nK kc, sV tx] TNo (0, 0))) wr)) (fun i _ => nK - (RowKit.intOf i).toNat)
          case atStart => exact ⟨0, Nat.zero_le _, rfl, Lib.hid (by rw [List.take_zero, printsX, List.append_nil]; exact HS8.out)⟩
          case round =>
            clear HS8 q0 q1 q2 q3 q4
            obtain ⟨j, hj, rfl, HSJ⟩ := hrel
            have xj := HSJ.out.blk HX.out HXb.out (by decide)
            have q0 := xj.cell 0
            have q1 := xj.cell 1
            have q2 := xj.cell 2
            have q3 := xj.cell 3
            have q4 := xj.cell 4
            by_cases hjt : j < nK
            · have hjl : j < ks.length := by rw [HNK.out]; exact hjt
              obtain ⟨bb, off, hAe, hT, hbl, hll⟩ := HK.out (by omega)
              obtain ⟨kaA, kac, kkA, kkc, c0, c1, c2, c3, c4, hxk⟩ := XRl.cells hll j hjl
              have HTK := Lib.hid (printsX_take sp hjl)
              have hLk := printsX_le (l := ks) sp (j + 1)
              have hwm := wXs_mem (List.getElem_mem hjl)
              have hwk := HWK.out
              obtain ⟨kid, hkid⟩ : ∃ a, ks[j] = a := ⟨_, rfl⟩
              rw [hkid] at c0 c1 c2 c3 c4 hxk HTK hwm
              have y0 := HSJ.out.cell (p := ⟨bb, off + j * 5, none⟩) hbl c0
              have y1 := HSJ.out.cell (p := ⟨bb, off + j * 5 + 1, none⟩) hbl c1
              have y2 := HSJ.out.cell (p := ⟨bb, off + j * 5 + 2, none⟩) hbl c2
              have y3 := HSJ.out.cell (p := ⟨bb, off + j * 5 + 3, none⟩) hbl c3
              have y4 := HSJ.out.cell (p := ⟨bb, off + j * 5 + 4, none⟩) hbl c4
              subst hAe
              have HSB := Lib.hid (HSJ.out.call (below_alloc8 wr (.cells #[sV kid.space, sV kid.name, .slice kaA kid.attrs.length kac, .slice kkA kid.kids.length kkc, sV kid.text] TNo (0, 0))))
              have xb := HSB.out.blk HX.out HXb.out (by decide)
              have u0 := xb.cell 0
              have hLs : (printsX (ks.take (j + 1)) sp).length = (printsX (ks.take j) sp).length + (printX kid sp).length := by rw [HTK.out, List.length_append]
              have hLx : ((((((acc ++ [60]) ++ nm) ++ P2) ++ P3) ++ [62]) ++ printsX (ks.take j) sp).length + (printX kid sp).length ≤ 700000000 := by simp only [List.length_append, List.length_cons, List.length_nil]; omega
              have HWR := Lib.hid (HIH.out T kid _ w0 _ b _ sp (by omega) (by omega) hxk HSB.out.here hLx HM.out)
              unfold BWr at HWR
              clear c0 c1 c2 c3 c4 hll hkid xj xb hLs hLx hxk hwm hwk
              go_wp2_with (go_at_call 37; (with_reducible refine HWR.out.mono ?_); rintro e w9 ⟨rfl, s9⟩; have HS9 := Lib.hid (HSB.out.comp s9); clear s9)
              go_roundw
              case rel => exact ⟨j + 1, by omega, by go_num, Lib.hid (by rw [HTK.out, ← List.append_assoc]; exact HS9.out)⟩
              case measure => simp [RowKit.intOf]; omega
            · obtain rfl : nK = j := by omega
              have htk : ks.take nK = ks := List.take_of_length_le (by rw [HNK.out]; exact Nat.le_refl _)
              rw [htk] at HSJ
              clear htk hjt xj
              obtain ⟨P4, hP4⟩ : ∃ p, printsX ks sp = p := ⟨_, rfl⟩
              rw [hP4] at HSJ hA3 HOUT
              clear hP4 HA1
              go_wp2_with fail
              refine (wS8 HSJ.out [60, 47] (by simp only [List.length_append, List.length_cons, List.length_nil]; omega)).mono ?_
              rintro e w10 ⟨⟨z10, rfl⟩, s10⟩
              have HS10 := Lib.hid s10
              have x10 := s10.blk HX.out HXb.out (by decide)
              clear q0 q1 q2 q3 q4
              have q1 := x10.cell 1
              clear s10 x10
              go_wp2_with fail
              refine (wS8 HS10.out nm (by simp only [List.length_append, List.length_cons, List.length_nil]; omega)).mono ?_
              rintro e w11 ⟨⟨z11, rfl⟩, s11⟩
              have HS11 := Lib.hid s11
              clear s11
              go_wp2_with fail
              refine (wB8 HS11.out 62 62 rfl (by simp only [List.length_append, List.length_cons, List.length_nil]; omega)).mono ?_
              rintro e w12 ⟨rfl, s12⟩
              have HS12 := Lib.hid (HSW.out.comp s12)
              clear s12
              go_wp2
              first | go_end0 | refine bodyPost_ret (results_none rfl _ _ _) rfl ?_
              exact ⟨rfl, by rw [HOUT.out]; have := HS12.out; simpa [List.append_assoc] using this⟩
  · have hp2 : P2 = attrP xmlnsW sp := by rw [← HP2.out, if_neg hsa]
    have hsq : ((bs sp).toList == (bs ar).toList) = false := by rw [eqS8]; exact beq_false_of_ne hsa
    have hsq2 : ¬ (bs sp).toList = (bs ar).toList := by rw [bs_toList, bs_toList]; exact hsa
    have HWA := Lib.hid (writeAttr_any HS3.out xmlnsW sp (by decide) (by omega) (by simp only [List.length_append, List.length_cons, List.length_nil]; omega) HM.out)
    rw [← hp2] at HWA
    unfold BWr at HWA
    clear hsa hp2
    go_wp2_with fail
    refine HWA.out.mono ?_
    rintro e w4 ⟨rfl, s4⟩
    have HS4 := Lib.hid s4
    have x4 := s4.blk HX.out HXb.out (by decide)
    clear q0 q1 q2 q3 q4
    have q0 := x4.cell 0
    have q1 := x4.cell 1
    have q2 := x4.cell 2
    have q3 := x4.cell 3
    have q4 := x4.cell 4
    clear s4 x4 HWA HS3
    go_wp2
    go_loopw [34] (fun i wr => ∃ k : Nat, k ≤ nA ∧ i = .int .i64 k ∧ Hid (BSt w0 b ((((acc ++ [60]) ++ nm) ++ P2) ++ attrsP (al.take k)) (W.alloc (.cells #[sV sp, sV nm, .slice aA nA ac, .slice kA nK kc, sV tx] TNo (0, 0))) wr)) (fun i _ => nA - (RowKit.intOf i).toNat)
    case atStart => exact ⟨0, Nat.zero_le _, rfl, Lib.hid (by rw [List.take_zero]; show BSt w0 b ((((acc ++ [60]) ++ nm) ++ P2) ++ []) _ _; rw [List.append_nil]; exact HS4.out)⟩
    case round =>
      clear HS4
      obtain ⟨k, hk, rfl, HSK⟩ := hrel
      have xk := HSK.out.blk HX.out HXb.out (by decide)
      have p0 := xk.cell 0
      have p1 := xk.cell 1
      have p2 := xk.cell 2
      have p3 := xk.cell 3
      have p4 := xk.cell 4
      by_cases hlt : k < nA
      · have hkl : k < al.length := by rw [HNA.out]; exact hlt
        obtain ⟨bb, off, hAe, hT, hbl, hcl⟩ := HR.out (by rw [cA_len]; omega)
        obtain ⟨c0, c1, c2⟩ := RC.a3 hcl k hkl
        have hsa := HSM.out _ (List.getElem_mem hkl)
        have HTK := Lib.hid (attrsP_take hkl)
        have hLk := attrsP_le al (k + 1)
        have hLk1 := attrsP_le al k
        obtain ⟨a, ha⟩ : ∃ a, al[k] = a := ⟨_, rfl⟩
        rw [ha] at c0 c1 c2 hsa HTK
        have y0 := HSK.out.cell (p := ⟨bb, off + k * 3, none⟩) hbl c0
        have y1 := HSK.out.cell (p := ⟨bb, off + k * 3 + 1, none⟩) hbl c1
        have y2 := HSK.out.cell (p := ⟨bb, off + k * 3 + 2, none⟩) hbl c2
        subst hAe
        obtain ⟨⟨asp, anm, avl⟩, rfl⟩ : ∃ x : XA, a = x := ⟨_, rfl⟩
        simp only at y0 y1 y2 hsa HTK
        have HSB := Lib.hid (HSK.out.call (below_alloc8 wr (.cells #[sV asp, sV anm, sV avl] TA3 (0, 0))))
        clear c0 c1 c2 hcl ha xk
        have hLx : ((((acc ++ [60]) ++ nm) ++ P2) ++ attrsP (al.take k)).length ≤ 700000000 := by simp only [List.length_append, List.length_cons, List.length_nil]; omega
        have HWA := Lib.hid (writeAttr_any HSB.out anm avl (by omega) (by omega) (by omega) HM.out)
        unfold BWr at HWA
        clear hLx
        go_wp2_with (go_at_call 69; (with_reducible refine HWA.out.mono ?_); rintro e w6 ⟨rfl, s6⟩; have HS6 := Lib.hid s6; clear s6)
        go_roundw
        case rel => exact ⟨k + 1, by omega, by go_num, Lib.hid (by rw [HTK.out, ← List.append_assoc]; exact HS6.out)⟩
        case measure => simp [RowKit.intOf]; omega
      · obtain rfl : nA = k := by omega
        have htk : al.take nA = al := List.take_of_length_le (by rw [HNA.out]; exact Nat.le_refl _)
        rw [htk] at HSK
        clear htk hlt xk hk
        obtain ⟨P3, hP3⟩ : ∃ p, attrsP al = p := ⟨_, rfl⟩
        rw [hP3] at HA1 HSK hA2 HOUT
        clear hP3
        by_cases hk0 : nK = 0
        · subst hk0
          rw [if_pos rfl] at HA1 HOUT
          go_wp2_with fail
          refine (wS8 HSK.out [47, 62] (by simp only [List.length_append, List.length_cons, List.length_nil]; omega)).mono ?_
          rintro e w7 ⟨⟨z7, rfl⟩, s7⟩
          have HS7 := Lib.hid (HSW.out.comp s7)
          clear s7
          go_wp2
          first | go_end0 | refine bodyPost_ret (results_none rfl _ _ _) rfl ?_
          exact ⟨rfl, by rw [HOUT.out]; have := HS7.out; simpa [List.append_assoc] using this⟩
        · have hk0b : ((nK : Int) == 0) = false := by rw [beq_eq_false_iff_ne]; omega
          have hk0c : ¬ ((nK : Int) = 0) := by omega
          rw [if_neg hk0] at HA1 HOUT
          have hA3 : acc.length + 1 + nm.length + P2.length + P3.length + 1 + (printsX ks sp).length + 2 + nm.length + 1 ≤ 700000000 := by
            have := HA1.out
            simp only [List.length_append, List.length_cons, List.length_nil] at this
            omega
          go_wp2_with fail
          refine (wB8 HSK.out 62 62 rfl (by simp only [List.length_append, List.length_cons, List.length_nil]; omega)).mono ?_
          rintro e w8 ⟨rfl, s8⟩
          have HS8 := Lib.hid s8
          have x8 := s8.blk HX.out HXb.out (by decide)
          have q0 := x8.cell 0
          have q1 := x8.cell 1
          have q2 := x8.cell 2
          have q3 := x8.cell 3
          have q4 := x8.cell 4
          clear s8 x8
          go_wp2
          go_loopw [56] (fun i wr => ∃ k : Nat, k ≤ nK ∧ i = .int .i64 k ∧ Hid (BSt w0 b ((((((acc ++ [60]) ++ nm) ++ P2) ++ P3) ++ [62]) ++ printsX (ks.take k) sp) (W.alloc (.cells #[sV sp, sV nm, .slice aA nA ac, .slice kA nK kc, sV tx] TNo (0, 0))) wr)) (fun i _ => nK - (RowKit.intOf i).toNat)
          case atStart => exact ⟨0, Nat.zero_le _, rfl, Lib.hid (by rw [List.take_zero, printsX, List.append_nil]; exact HS8.out)⟩
          case round =>
            clear HS8 q0 q1 q2 q3 q4
            obtain ⟨j, hj, rfl, HSJ⟩ := hrel
            have xj := HSJ.out.blk HX.out HXb.out (by decide)
            have q0 := xj.cell 0
            have q1 := xj.cell 1
            have q2 := xj.cell 2
            have q3 := xj.cell 3
            have q4 := xj.cell 4
            by_cases hjt : j < nK
            · have hjl : j < ks.length := by rw [HNK.out]; exact hjt
              obtain ⟨bb, off, hAe, hT, hbl, hll⟩ := HK.out (by omega)
              obtain ⟨kaA, kac, kkA, kkc, c0, c1, c2, c3, c4, hxk⟩ := XRl.cells hll j hjl
              have HTK := Lib.hid (printsX_take sp hjl)
              have hLk := printsX_le (l := ks) sp (j + 1)
              have hwm := wXs_mem (List.getElem_mem hjl)
              have hwk := HWK.out
              obtain ⟨kid, hkid⟩ : ∃ a, ks[j] = a := ⟨_, rfl⟩
              rw [hkid] at c0 c1 c2 c3 c4 hxk HTK hwm
              have y0 := HSJ.out.cell (p := ⟨bb, off + j * 5, none⟩) hbl c0
              have y1 := HSJ.out.cell (p := ⟨bb, off + j * 5 + 1, none⟩) hbl c1
              have y2 := HSJ.out.cell (p := ⟨bb, off + j * 5 + 2, none⟩) hbl c2
              have y3 := HSJ.out.cell (p := ⟨bb, off + j * 5 + 3, none⟩) hbl c3
              have y4 := HSJ.out.cell (p := ⟨bb, off + j * 5 + 4, none⟩) hbl c4
              subst hAe
              have HSB := Lib.hid (HSJ.out.call (below_alloc8 wr (.cells #[sV kid.space, sV kid.name, .slice kaA kid.attrs.length kac, .slice kkA kid.kids.length kkc, sV kid.text] TNo (0, 0))))
              have xb := HSB.out.blk HX.out HXb.out (by decide)
              have u0 := xb.cell 0
              have hLs : (printsX (ks.take (j + 1)) sp).length = (printsX (ks.take j) sp).length + (printX kid sp).length := by rw [HTK.out, List.length_append]
              have hLx : ((((((acc ++ [60]) ++ nm) ++ P2) ++ P3) ++ [62]) ++ printsX (ks.take j) sp).length + (printX kid sp).length ≤ 700000000 := by simp only [List.length_append, List.length_cons, List.length_nil]; omega
              have HWR := Lib.hid (HIH.out T kid _ w0 _ b _ sp (by omega) (by omega) hxk HSB.out.here hLx HM.out)
              unfold BWr at HWR
              clear c0 c1 c2 c3 c4 hll hkid xj xb hLs hLx hxk hwm hwk
              go_wp2_with (go_at_call 37; (with_reducible refine HWR.out.mono ?_); rintro e w9 ⟨rfl, s9⟩; have HS9 := Lib.hid (HSB.out.comp s9); clear s9)
              go_roundw
              case rel => exact ⟨j + 1, by omega, by go_num, Lib.hid (by rw [HTK.out, ← List.append_assoc]; exact HS9.out)⟩
              case measure => simp [RowKit.intOf]; omega
            · obtain rfl : nK = j := by omega
              have htk : ks.take nK = ks := List.take_of_length_le (by rw [HNK.out]; exact Nat.le_refl _)
              rw [htk] at HSJ
              clear htk hjt xj
              obtain ⟨P4, hP4⟩ : ∃ p, printsX ks sp = p := ⟨_, rfl⟩
              rw [hP4] at HSJ hA3 HOUT
              clear hP4 HA1
              go_wp2_with fail
              refine (wS8 HSJ.out [60, 47] (by simp only [List.length_append, List.length_cons, List.length_nil]; omega)).mono ?_
              rintro e w10 ⟨⟨z10, rfl⟩, s10⟩
              have HS10 := Lib.hid s10
              have x10 := s10.blk HX.out HXb.out (by decide)
              clear q0 q1 q2 q3 q4
              have q1 := x10.cell 1
              clear s10 x10
              go_wp2_with fail
              refine (wS8 HS10.out nm (by simp only [List.length_append, List.length_cons, List.length_nil]; omega)).mono ?_
              rintro e w11 ⟨⟨z11, rfl⟩, s11⟩
              have HS11 := Lib.hid s11
              clear s11
              go_wp2_with fail
              refine (wB8 HS11.out 62 62 rfl (by simp only [List.length_append, List.length_cons, List.length_nil]; omega)).mono ?_
              rintro e w12 ⟨rfl, s12⟩
              have HS12 := Lib.hid (HSW.out.comp s12)
              clear s12
              go_wp2
              first | go_end0 | refine bodyPost_ret (results_none rfl _ _ _) rfl ?_
              exact ⟨rfl, by rw [HOUT.out]; have := HS12.out; simpa [List.append_assoc] using this⟩
theorem write_all : ∀ N : Nat, WriteC N
  | 0 => write_zero
  | N + 1 => fun T v x w0 W b acc ar hN hw hx S hl hm => by
    by_cases hn : v.name = []
    · exact write_text ar hw hx S hl hn
    · exact write_elem (write_all N) hN hw hx S hl hm hn
end Go.Proofs.YtklcjimmbkpbdaaGreatDoor
namespace Go.Proofs.YtklcjimmbkpbdaaGreatDoor
open Go.RowKit
open Go.Lib

/-- What is printed, and the error. -/
def prX (v : XV) : Bt := if rightX 24 v = true then printX v [] else []
def prEX (v : XV) : Int := if rightX 24 v = true then 0 else 2
theorem BSt.new (w : World) : BSt w w.heap.size [] (w.alloc (.cells #[.pointer none, .slice none 0 0] TSb)) (w.alloc (.cells #[.pointer none, .slice none 0 0] TSb)) :=
  ⟨Lib.IsBuilderF.of (Lib.fresh_isBuilder TSb TY8 w), (Below.refl _ _).alloc (Nat.le_refl _) _, Below.refl _ _, kept_below (Below.refl _ _)⟩
theorem sbStr8 {w0 W w : World} {b : Nat} {acc : Bt} (S : BSt w0 b acc W w) : Calls Tryz.prog 38 #[.pointer (some ⟨b, 0, none⟩)] w fun e w' => e = .returned (.string (bs acc)) ∧ Below w0.heap.size w w' :=
  (sbString w0.heap.size b acc w S.bld S.le).mono (fun _ _ h => ⟨h.1, h.2.2.1⟩)
set_option maxRecDepth 100000 in
set_option maxHeartbeats 2000000 in
theorem print_any8 {T : Nat → Prop} {v : XV} {x : Value} {w : World} (hx : XR w T v x) (hw : wX v ≤ 100000) (hm : ML w) :
    Calls Tryz.prog 15 #[x] w fun e w' => e = .returned (.tuple #[.string (bs (prX v)), .int .i64 (prEX v)]) ∧ Below w.heap.size w w' := by
  obtain ⟨aA, ac, kA, kc, rfl⟩ := xr_one hx
  have hB := below_alloc8 w (.cells #[sV v.space, sV v.name, .slice aA v.attrs.length ac, .slice kA v.kids.length kc, sV v.text] TNo (0, 0))
  have HX := Lib.hid (Blk.new (.cells #[sV v.space, sV v.name, .slice aA v.attrs.length ac, .slice kA v.kids.length kc, sV v.text] TNo (0, 0)) w)
  have HB := Lib.hid hB
  have HRI := Lib.hid (right_all 24 (by decide) v _ T _ (hx.below hB) hw (hm.below hB))
  unfold BoO at HRI
  have HWR := Lib.hid (fun (w1 : World) (b1 : Below w.heap.size w w1) => write_all _ T v _ w1 _ w1.heap.size [] [] (Nat.le_refl _) hw (hx.below b1) (BSt.new w1) (by have := printX_len v []; simp only [List.length_nil]; omega) (hm.below b1))
  unfold BWr at HWR
  obtain ⟨q, hq⟩ : ∃ q, rightX 24 v = q := ⟨_, rfl⟩
  rw [hq] at HRI
  have HP : Hid (prX v = if q = true then printX v [] else []) := Lib.hid (by unfold prX; rw [hq])
  have HE : Hid (prEX v = if q = true then 0 else 2) := Lib.hid (by unfold prEX; rw [hq])
  obtain ⟨P, hP⟩ : ∃ p, prX v = p := ⟨_, rfl⟩
  obtain ⟨E, hE⟩ : ∃ p, prEX v = p := ⟨_, rfl⟩
  rw [hP] at HP
  rw [hE] at HE
  rw [hP, hE]
  obtain ⟨nA, hnA⟩ : ∃ n, v.attrs.length = n := ⟨_, rfl⟩
  obtain ⟨nK, hnK⟩ : ∃ n, v.kids.length = n := ⟨_, rfl⟩
  rw [hnA, hnK] at HX HB HRI HWR
  rw [hnA, hnK]
  clear hx hm hw hB hP hE hq hnA hnK
  cases q with
  | false =>
    have h1 : P = [] := HP.out
    have h2 : E = 2 := HE.out
    subst h1 h2
    go_enter Tryz.func15, Tryz.ntmps15
    go_wp2_with fail
    refine HRI.out.mono ?_
    rintro e w1 ⟨rfl, b1⟩
    go_wp2
    go_ret2
    exact ⟨rfl, HB.out.trans (b1.mono HB.out.size)⟩
  | true =>
    have h1 : printX v [] = P := HP.out.symm
    have h2 : E = 0 := HE.out
    rw [h1] at HWR
    subst h2
    clear h1 HP HE
    go_enter Tryz.func15, Tryz.ntmps15
    go_wp2_with fail
    refine HRI.out.mono ?_
    rintro e w1 ⟨rfl, b1⟩
    have x1 := (Off.of_below b1).blk HX.out (fun h => h)
    have hb1 : Below w.heap.size w w1 := HB.out.trans (b1.mono HB.out.size)
    have HB1 := Lib.hid hb1
    have x2 := (Off.of_below (below_alloc8 w1 (.cells #[.pointer none, .slice none 0 0] TSb (0, 0)))).blk x1 (fun h => h)
    have q0 := x2.cell 0
    have q1 := x2.cell 1
    have q2 := x2.cell 2
    have q3 := x2.cell 3
    have q4 := x2.cell 4
    have HW1 := Lib.hid (HWR.out w1 hb1)
    clear x1 x2 b1 hb1 HWR
    go_wp2_with fail
    refine HW1.out.mono ?_
    rintro e w2 ⟨rfl, s2⟩
    have HS2 := Lib.hid s2
    clear s2
    go_wp2_with fail
    refine (sbStr8 HS2.out).mono ?_
    rintro e w3 ⟨rfl, b3⟩
    have HB3 := Lib.hid b3
    clear b3
    go_wp2
    go_ret2
    exact ⟨rfl, HB1.out.trans ((HS2.out.since.trans HB3.out).mono HB1.out.size)⟩
mutual
/-- All texts in a node. -/
def innerX : XV → Bt
  | .mk _ nm _ ks tx => if nm = [] then tx else innersX ks
def innersX : List XV → Bt
  | [] => []
  | v :: l => innerX v ++ innersX l
end
theorem innerX_text {v : XV} (h : v.name = []) : innerX v = v.text := by
  obtain ⟨sp, nm, al, ks, tx⟩ := v
  have h' : nm = [] := h
  rw [innerX, if_pos h']
  rfl
theorem innerX_elem {v : XV} (h : v.name ≠ []) : innerX v = innersX v.kids := by
  obtain ⟨sp, nm, al, ks, tx⟩ := v
  have h' : ¬ nm = [] := h
  rw [innerX, if_neg h']
  rfl
theorem innersX_append : ∀ (a b : List XV), innersX (a ++ b) = innersX a ++ innersX b
  | [], b => by rw [List.nil_append, innersX, List.nil_append]
  | v :: a, b => by rw [List.cons_append, innersX, innersX, innersX_append a b, List.append_assoc]
theorem innersX_take {l : List XV} {k : Nat} (h : k < l.length) : innersX (l.take (k + 1)) = innersX (l.take k) ++ innerX l[k] := by
  rw [List.take_succ_eq_append_getElem h, innersX_append, innersX, innersX, List.append_nil]
theorem innersX_le (l : List XV) (k : Nat) : (innersX (l.take k)).length ≤ (innersX l).length := by
  have : (innersX l).length = (innersX (l.take k)).length + (innersX (l.drop k)).length := by
    rw [← List.length_append, ← innersX_append, List.take_append_drop]
  omega
mutual
theorem innerX_len : ∀ v : XV, (innerX v).length ≤ wX v
  | .mk sp nm al ks tx => by
    have h1 := innersX_len ks
    have hw := wX_eq (.mk sp nm al ks tx)
    simp only [XV.space, XV.name, XV.text, XV.attrs, XV.kids] at hw
    rw [innerX]
    split <;> omega
theorem innersX_len : ∀ l : List XV, (innersX l).length ≤ wXs l
  | [] => Nat.zero_le _
  | v :: l => by
    have h1 := innerX_len v
    have h2 := innersX_len l
    rw [innersX, wXs, List.length_append]
    omega
end
def InnC (N : Nat) : Prop := ∀ (T : Nat → Prop) (v : XV) (x : Value) (w0 W : World) (b : Nat) (acc : Bt), wX v ≤ N → XR w0 T v x → BSt w0 b acc W W → acc.length + wX v ≤ 700000000 →
  Calls Tryz.prog 46 #[.pointer (some ⟨b, 0, none⟩), x] W (BWr w0 b (acc ++ innerX v) W)
set_option maxRecDepth 100000 in
set_option maxHeartbeats 8000000 in
theorem inn_text {T : Nat → Prop} {v : XV} {x : Value} {w0 W : World} {b : Nat} {acc : Bt} (hx : XR w0 T v x) (S : BSt w0 b acc W W) (hl : acc.length + wX v ≤ 700000000) (hn : v.name = []) :
    Calls Tryz.prog 46 #[.pointer (some ⟨b, 0, none⟩), x] W (BWr w0 b (acc ++ innerX v) W) := by
  have HT := Lib.hid (fun V => isText_any (w := V) hx)
  obtain ⟨aA, ac, kA, kc, rfl⟩ := xr_one hx
  have hB := below_alloc8 W (.cells #[sV v.space, sV v.name, .slice aA v.attrs.length ac, .slice kA v.kids.length kc, sV v.text] TNo (0, 0))
  have HX := Lib.hid (Blk.new (.cells #[sV v.space, sV v.name, .slice aA v.attrs.length ac, .slice kA v.kids.length kc, sV v.text] TNo (0, 0)) W)
  have HSW := Lib.hid (S.call hB)
  have HXb : Hid (W.heap.size ≠ b) := Lib.hid (by have := S.lt; omega)
  have hnb : (v.name == []) = true := by rw [hn]; rfl
  rw [hnb] at HT
  unfold BoO at HT
  obtain ⟨t1, t2, t3, t4, t5, t6⟩ := wX_text v
  rw [innerX_text hn]
  have hl2 : acc.length + v.text.length ≤ 700000000 := by omega
  obtain ⟨nA, hnA⟩ : ∃ n, v.attrs.length = n := ⟨_, rfl⟩
  obtain ⟨nK, hnK⟩ : ∃ n, v.kids.length = n := ⟨_, rfl⟩
  obtain ⟨tx, htx⟩ : ∃ n, v.text = n := ⟨_, rfl⟩
  rw [hnA, hnK, htx] at HX HSW HT
  rw [htx] at hl2
  rw [hnA, hnK, htx]
  clear hx S hB hn hnb t1 t2 t3 t4 t5 t6 hl hnA hnK htx
  go_enter Tryz.func46, Tryz.ntmps46
  go_wp2_with fail
  refine (HT.out _).mono ?_
  rintro e w1 ⟨rfl, b1⟩
  have HS1 := Lib.hid (HSW.out.here.call b1)
  have x1 := HS1.out.blk HX.out HXb.out (by decide)
  have q4 := x1.cell 4
  clear b1 x1
  go_wp2_with fail
  refine (wS8 HS1.out tx (by omega)).mono ?_
  rintro e w3 ⟨⟨z3, rfl⟩, s3⟩
  have HS3 := Lib.hid (HSW.out.comp s3)
  clear s3
  go_wp2
  first | go_end0 | refine bodyPost_ret (results_none rfl _ _ _) rfl ?_
  exact ⟨rfl, HS3.out⟩
set_option maxRecDepth 100000 in
set_option maxHeartbeats 8000000 in
theorem inn_elem {N : Nat} (IH : InnC N) {T : Nat → Prop} {v : XV} {x : Value} {w0 W : World} {b : Nat} {acc : Bt} (hN : wX v ≤ N + 1) (hx : XR w0 T v x) (S : BSt w0 b acc W W) (hl : acc.length + wX v ≤ 700000000) (hn : v.name ≠ []) :
    Calls Tryz.prog 46 #[.pointer (some ⟨b, 0, none⟩), x] W (BWr w0 b (acc ++ innerX v) W) := by
  have HT := Lib.hid (fun V => isText_any (w := V) hx)
  have hat : ∃ aA ac kA kc, x = .agg #[sV v.space, sV v.name, .slice aA v.attrs.length ac, .slice kA v.kids.length kc, sV v.text] ∧ RC w0 T aA (cA v.attrs) ∧ RN8 w0 T kA v.kids := by
    obtain ⟨sp, nm, al, ks, tx⟩ := v
    exact XR.attrs hx
  obtain ⟨aA, ac, kA, kc, rfl, _, hK⟩ := hat
  have hB := below_alloc8 W (.cells #[sV v.space, sV v.name, .slice aA v.attrs.length ac, .slice kA v.kids.length kc, sV v.text] TNo (0, 0))
  have HX := Lib.hid (Blk.new (.cells #[sV v.space, sV v.name, .slice aA v.attrs.length ac, .slice kA v.kids.length kc, sV v.text] TNo (0, 0)) W)
  have HSW := Lib.hid (S.call hB)
  have HXb : Hid (W.heap.size ≠ b) := Lib.hid (by have := S.lt; omega)
  have hnb : (v.name == []) = false := beq_false_of_ne hn
  rw [hnb] at HT
  unfold BoO at HT
  obtain ⟨t1, t2, t3, t4, t5, t6⟩ := wX_text v
  have hwe := wX_eq v
  have hlk := wXs_len v.kids
  rw [innerX_elem hn]
  have HK := Lib.hid hK
  have HIH := Lib.hid IH
  obtain ⟨nA, hnA⟩ : ∃ n, v.attrs.length = n := ⟨_, rfl⟩
  obtain ⟨ks, hks⟩ : ∃ n, v.kids = n := ⟨_, rfl⟩
  rw [hnA, hks] at HX HSW HT
  rw [hks] at HK t6 hwe hlk
  rw [hnA, hks]
  have HWK : Hid (wXs ks ≤ N ∧ acc.length + wXs ks ≤ 700000000) := Lib.hid ⟨by omega, by omega⟩
  obtain ⟨nK, hnK⟩ : ∃ n, ks.length = n := ⟨_, rfl⟩
  have HNK := Lib.hid hnK
  rw [hnK] at HX HSW HT
  rw [hnK]
  have hnKb : nK ≤ 700000000 := by omega
  clear hx S hB hn hnb t1 t2 t3 t4 t5 t6 hl hnA hks hnK hK IH hN hwe hlk
  go_enter Tryz.func46, Tryz.ntmps46
  go_wp2_with fail
  refine (HT.out _).mono ?_
  rintro e w1 ⟨rfl, b1⟩
  have HS1 := Lib.hid (HSW.out.here.call b1)
  have x1 := HS1.out.blk HX.out HXb.out (by decide)
  have q3 := x1.cell 3
  clear b1 x1 HT
  go_wp2
  go_loopw [15] (fun i wr => ∃ k : Nat, k ≤ nK ∧ i = .int .i64 k ∧ Hid (BSt w0 b (acc ++ innersX (ks.take k)) (W.alloc (.cells #[sV v.space, sV v.name, .slice aA nA ac, .slice kA nK kc, sV v.text] TNo (0, 0))) wr)) (fun i _ => nK - (RowKit.intOf i).toNat)
  case atStart => exact ⟨0, Nat.zero_le _, rfl, Lib.hid (by rw [List.take_zero, innersX, List.append_nil]; exact HS1.out)⟩
  case round =>
    clear HS1 q3
    obtain ⟨j, hj, rfl, HSJ⟩ := hrel
    by_cases hjt : j < nK
    · have hjl : j < ks.length := by rw [HNK.out]; exact hjt
      obtain ⟨bb, off, hAe, hT, hbl, hll⟩ := HK.out (by omega)
      obtain ⟨kaA, kac, kkA, kkc, c0, c1, c2, c3, c4, hxk⟩ := XRl.cells hll j hjl
      have HTK := Lib.hid (innersX_take hjl)
      have hLk := innersX_le ks (j + 1)
      have hLl := innersX_len ks
      have hwm := wXs_mem (List.getElem_mem hjl)
      have hwk := HWK.out
      have hin : (innersX (ks.take j)).length + wX ks[j] ≤ wXs ks := by
        have h1 := innersX_len (ks.take j)
        have h2 := wXs_append (ks.take j) (ks.drop j)
        rw [List.take_append_drop, List.drop_eq_getElem_cons hjl, wXs] at h2
        omega
      obtain ⟨kid, hkid⟩ : ∃ a, ks[j] = a := ⟨_, rfl⟩
      rw [hkid] at c0 c1 c2 c3 c4 hxk HTK hwm hin
      have y0 := HSJ.out.cell (p := ⟨bb, off + j * 5, none⟩) hbl c0
      have y1 := HSJ.out.cell (p := ⟨bb, off + j * 5 + 1, none⟩) hbl c1
      have y2 := HSJ.out.cell (p := ⟨bb, off + j * 5 + 2, none⟩) hbl c2
      have y3 := HSJ.out.cell (p := ⟨bb, off + j * 5 + 3, none⟩) hbl c3
      have y4 := HSJ.out.cell (p := ⟨bb, off + j * 5 + 4, none⟩) hbl c4
      subst hAe
      have HSB := Lib.hid (HSJ.out.call (below_alloc8 wr (.cells #[sV kid.space, sV kid.name, .slice kaA kid.attrs.length kac, .slice kkA kid.kids.length kkc, sV kid.text] TNo (0, 0))))
      have hLx : (acc ++ innersX (ks.take j)).length + wX kid ≤ 700000000 := by rw [List.length_append]; omega
      have HWR := Lib.hid (HIH.out T kid _ w0 _ b _ (by omega) hxk HSB.out.here hLx)
      unfold BWr at HWR
      clear c0 c1 c2 c3 c4 hll hkid hLx hxk hwm hwk hin hLk hLl
      go_wp2_with (go_at_call 46; (with_reducible refine HWR.out.mono ?_); rintro e w9 ⟨rfl, s9⟩; have HS9 := Lib.hid (HSB.out.comp s9); clear s9)
      go_roundw
      case rel => exact ⟨j + 1, by omega, by go_num, Lib.hid (by rw [HTK.out, ← List.append_assoc]; exact HS9.out)⟩
      case measure => simp [RowKit.intOf]; omega
    · obtain rfl : nK = j := by omega
      have htk : ks.take nK = ks := List.take_of_length_le (by rw [HNK.out]; exact Nat.le_refl _)
      rw [htk] at HSJ
      have HS7 := Lib.hid (HSW.out.comp HSJ.out)
      go_wp2
      first | go_end0 | refine bodyPost_ret (results_none rfl _ _ _) rfl ?_
      exact ⟨rfl, HS7.out⟩
theorem inn_all : ∀ N : Nat, InnC N
  | 0 => fun T v x w0 W b acc hN _ _ _ => by have := wX_eq v; omega
  | N + 1 => fun T v x w0 W b acc hN hx S hl => by
    by_cases hn : v.name = []
    · exact inn_text hx S hl hn
    · exact inn_elem (inn_all N) hN hx S hl hn
set_option maxRecDepth 100000 in
set_option maxHeartbeats 2000000 in
theorem inner_any {T : Nat → Prop} {v : XV} {x : Value} {w : World} (hx : XR w T v x) (hw : wX v ≤ 10000000) :
    Calls Tryz.prog 23 #[x] w fun e w' => e = .returned (.string (bs (innerX v))) ∧ Below w.heap.size w w' := by
  have HIN := Lib.hid (fun (w1 : World) (b1 : Below w.heap.size w w1) => inn_all _ T v x w1 _ w1.heap.size [] (Nat.le_refl _) (hx.below b1) (BSt.new w1) (by simp only [List.length_nil]; omega))
  unfold BWr at HIN
  obtain ⟨aA, ac, kA, kc, rfl⟩ := xr_one hx
  have hB := below_alloc8 w (.cells #[sV v.space, sV v.name, .slice aA v.attrs.length ac, .slice kA v.kids.length kc, sV v.text] TNo (0, 0))
  have HB := Lib.hid hB
  have hX := Blk.new (.cells #[sV v.space, sV v.name, .slice aA v.attrs.length ac, .slice kA v.kids.length kc, sV v.text] TNo (0, 0)) w
  have hX2 := (Off.of_below (below_alloc8 (w.alloc (.cells #[sV v.space, sV v.name, .slice aA v.attrs.length ac, .slice kA v.kids.length kc, sV v.text] TNo (0, 0))) (.cells #[.pointer none, .slice none 0 0] TSb (0, 0)))).blk hX (fun h => h)
  have q0 := hX2.cell 0
  have q1 := hX2.cell 1
  have q2 := hX2.cell 2
  have q3 := hX2.cell 3
  have q4 := hX2.cell 4
  have HW1 := Lib.hid (HIN.out _ hB)
  obtain ⟨y, hy⟩ : ∃ y, innerX v = y := ⟨_, rfl⟩
  rw [hy] at HW1 ⊢
  obtain ⟨nA, hnA⟩ : ∃ n, v.attrs.length = n := ⟨_, rfl⟩
  obtain ⟨nK, hnK⟩ : ∃ n, v.kids.length = n := ⟨_, rfl⟩
  rw [hnA, hnK] at q0 q1 q2 q3 q4 HB HW1
  rw [hnA, hnK]
  have hsz : ∀ o : Obj, (w.alloc o).heap.size = w.heap.size + 1 := fun o => by simp
  simp only [hsz] at HW1
  clear hx hw hB hX hX2 HIN hy hnA hnK
  go_enter Tryz.func23, Tryz.ntmps23
  go_wp2_with fail
  refine HW1.out.mono ?_
  rintro e w2 ⟨rfl, s2⟩
  have HS2 := Lib.hid s2
  clear s2
  have HSS := Lib.hid (sbStr8 HS2.out)
  go_wp2_with fail
  refine HSS.out.mono ?_
  rintro e w3 ⟨rfl, b3⟩
  have HB3 := Lib.hid b3
  clear b3
  go_wp2
  go_ret
  exact ⟨rfl, HB.out.trans ((HS2.out.since.trans HB3.out).mono HB.out.size)⟩
end Go.Proofs.YtklcjimmbkpbdaaGreatDoor
