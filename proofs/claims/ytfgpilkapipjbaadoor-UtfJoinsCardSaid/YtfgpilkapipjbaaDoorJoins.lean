/-
  The walk of the law UtfJoins. Conditions: the library's two tables hold what they are laid with.
-/
import Derived.Test.YtfgpilkapipjbaaDoorLaws
import Derived.Test.YtfgpilkapipjbaaDoorBackP
namespace Go.Proofs.YtfgpilkapipjbaaDoor
open Go.RowKit
open Go.Lib

/-- A list of the call's own behind another one. -/
theorem appOwn {ops : Array Oper} {rest : List Oper} {o : Oper} {a : Act} {Q : Exit → Act → World → Prop} (hgd : o.guard = none) (s x : Operand)
    (ho : o.op = .call { callee := .builtin .append, args := #[s, x], argTypes := #[25, 25] }) (w w0 : World) (B base base2 : Nat) (v v2 : Value) (xs ys : List Int)
    (hs : a.eval s = v) (hx : a.eval x = v2) (hown : OwnI w base v xs) (hown2 : OwnI w base2 v2 ys) (hl : xs.length ≤ 1000000) (hl2 : ys.length ≤ 1000000) (hbase : base ≤ w.heap.size) (hB : B ≤ base) (hb : Below B w0 w)
    (h : ∀ v' w', OwnI w' base v' (xs ++ ys) → Below B w0 w' → wpList Tryd.prog ops Q rest (a.put o.dst v') w') : wpList Tryd.prog ops Q (o :: rest) a w := by
  obtain ⟨i0, hi, hz0, hz1, hz2⟩ := info_parts Tryd.info3
  rcases hown2.2 with ⟨hv, hn⟩ | ⟨g, cap, cur, hv, hbg, hh, hc, hm, hcs, hcur⟩
  · have : ys = [] := List.eq_nil_of_length_eq_zero hn
    subst this
    refine wpList_append_own_none hgd s x 25 ho base 3 i0 1 Tryd.underlying25 hi v xs.length _ hs hown (hx.trans hv) ?_
    exact h v w (by simpa using hown) hb
  · subst hv
    refine wpList_append_own _ hgd s x 25 ho base 3 i0 (.int .i64 0) 1 8 Tryd.underlying25 hi hz0 hz1 hz2 rfl (by decide) v xs.length _ hs hown ⟨g, 0, none⟩ ys.length cap (ys.map (Value.int .i64)) hx (by simp) (World.ownsRow.cells hown2 rfl) ?_ (by unfold maxLen; omega) (by omega) hbase ?_
    · intro u hu
      obtain ⟨z, _, rfl⟩ := List.mem_map.1 hu
      rfl
    · intro v' w' hown' hg _
      refine h v' w' ?_ (hb.grown hg (by omega) (fun k hk => ?_))
      · unfold OwnI
        rw [List.length_append, List.map_append]
        exact hown'
      · have := (World.ownsRow.lt hown k hk).1
        omega

/-- Two squeezed texts with a blank between. -/
def joinSq (u v : List Int) : List Int := if v = [] then u else if u = [] then v else u ++ [32] ++ v
theorem joinSq_fold (u : List Int) (b : List Int) : ∀ (ys : List Int) (g : Bool) (ys' : List Int) (g' : Bool),
    ((ys = [] ∧ ys' = u ∧ g' = true) ∨ (ys ≠ [] ∧ g' = g ∧ ys' = joinSq u ys)) → (b.foldl sqStep (ys', g')).1 = joinSq u (b.foldl sqStep (ys, g)).1 := by
  induction b with
  | nil =>
    intro ys g ys' g' h
    rcases h with ⟨rfl, rfl, _⟩ | ⟨_, _, rfl⟩
    · simp [joinSq]
    · rfl
  | cons p b ih =>
    intro ys g ys' g' h
    rw [List.foldl_cons, List.foldl_cons]
    cases hb : isBl p with
    | true =>
      rw [sq_yes _ _ _ hb, sq_yes _ _ _ hb]
      refine ih _ _ _ _ ?_
      rcases h with ⟨h1, h2, h3⟩ | ⟨h1, h2, h3⟩
      · exact .inl ⟨h1, h2, rfl⟩
      · exact .inr ⟨h1, rfl, h3⟩
    | false =>
      rcases h with ⟨rfl, rfl, rfl⟩ | ⟨h1, rfl, rfl⟩
      · rw [sq_one [] g p hb (.inr rfl)]
        by_cases hu : ys' = []
        · subst hu
          rw [sq_one [] true p hb (.inr rfl)]
          exact ih _ _ _ _ (.inr ⟨by simp, rfl, by simp [joinSq]⟩)
        · rw [sq_two ys' p hb hu]
          exact ih _ _ _ _ (.inr ⟨by simp, rfl, by simp [joinSq, hu]⟩)
      · have hj : joinSq u ys ≠ [] := by
          unfold joinSq
          rw [if_neg h1]
          split
          · exact h1
          · simp
        have hjj : ∀ t : List Int, t ≠ [] → joinSq u ys ++ t = joinSq u (ys ++ t) := by
          intro t _
          have h2 : ys ++ t ≠ [] := fun e => h1 (List.append_eq_nil_iff.1 e).1
          by_cases hu : u = []
          · simp only [joinSq, if_neg h1, if_neg h2, if_pos hu]
          · simp only [joinSq, if_neg h1, if_neg h2, if_neg hu, List.append_assoc]
        cases g' with
        | true =>
          rw [sq_two _ p hb hj, sq_two _ p hb h1]
          exact ih _ _ _ _ (.inr ⟨by simp, rfl, hjj _ (by simp)⟩)
        | false =>
          rw [sq_one _ _ p hb (.inl rfl), sq_one _ _ p hb (.inl rfl)]
          exact ih _ _ _ _ (.inr ⟨by simp, rfl, hjj _ (by simp)⟩)
theorem sq_join (a b : List Int) : (sqOf (a ++ [32] ++ b)).1 = joinSq (sqOf a).1 (sqOf b).1 := by
  have e : sqOf (a ++ [32] ++ b) = b.foldl sqStep (sqStep (sqOf a) 32) := by simp [sqOf]
  rw [e]
  have e2 : sqStep (sqOf a) 32 = ((sqOf a).1, true) := sq_yes (sqOf a).1 (sqOf a).2 32 (by decide)
  rw [e2]
  exact joinSq_fold _ b [] false _ true (.inl ⟨rfl, rfl, rfl⟩)
theorem sq_join2 (a b : List Int) : (sqOf ((sqOf a).1 ++ [32] ++ (sqOf b).1)).1 = (sqOf (a ++ [32] ++ b)).1 := by
  rw [sq_join, sq_join, sq_sq, sq_sq]
theorem allPt_append {a b : List Int} (ha : AllPt a) (hb : AllPt b) : AllPt (a ++ b) := fun p hp => (List.mem_append.1 hp).elim (ha p) (hb p)
theorem allPt_blank : AllPt [32] := fun p hp => by rw [List.mem_singleton] at hp; subst hp; rfl
theorem ownout_txt (l : List Int) (w : World) (hl : l.length ≤ 100000) (hp : AllPt l) : Calls Tryd.prog 15 #[.string (txt l)] w (OwnOut w l) := by
  have := txt_size l
  have h := upoints_own (txt l) w (by omega)
  rwa [txt_pts l hp] at h

set_option maxRecDepth 100000 in
set_option maxHeartbeats 4000000 in
theorem law_joins (s u : ByteArray) (w : World) (hT : Tabs w) : Calls Tryd.prog 10 #[.string s, .string u] w (Yes w) := by
  have hf := first_any w hT
  clear hT
  by_cases h5 : 3000 < max (s.size : Int) (u.size : Int)
  · go_enter Tryd.func10, Tryd.ntmps10
    go_wp2_with fail
    refine hf.mono ?_
    clear hf
    rintro e w1 ⟨rfl, B1⟩
    go_wp2
    go_ret
    exact ⟨rfl, B1⟩
  have h6 : max (s.size : Int) (u.size : Int) ≤ 3000 := by omega
  have hs : s.size ≤ 3000 := by omega
  have hu : u.size ≤ 3000 := by omega
  clear h5
  have hrs : ∀ W : World, Calls Tryd.prog 20 #[.string s] W fun e w' => e = .returned (.string (txt (pts s.data.toList))) ∧ Below W.heap.size W w' := fun W => repair_any s W (by omega)
  have hru : ∀ W : World, Calls Tryd.prog 20 #[.string u] W fun e w' => e = .returned (.string (txt (pts u.data.toList))) ∧ Below W.heap.size W w' := fun W => repair_any u W (by omega)
  have hL := pts_length_le s.data.toList
  have hM := pts_length_le u.data.toList
  have hL : (pts s.data.toList).length ≤ 3000 := by simp at hL; omega
  have hM : (pts u.data.toList).length ≤ 3000 := by simp at hM; omega
  have HA := Lib.hid (pts_allPt s.data.toList)
  have HB := Lib.hid (pts_allPt u.data.toList)
  generalize pts s.data.toList = a at *
  generalize pts u.data.toList = b at *
  have HL := Lib.hid hL
  have HM := Lib.hid hM
  have za := txt_size a
  have zb := txt_size b
  have za : (txt a).size ≤ 12000 := by omega
  have zb : (txt b).size ≤ 12000 := by omega
  have k1 := txt_cat a b
  have k2 : txt a ++ ⟨#[32]⟩ = txt (a ++ [32]) := txt_cat a [32]
  have k3 := txt_cat (a ++ [32]) b
  have z3 : (txt (a ++ [32])).size ≤ 13000 := by have := txt_size (a ++ [32]); rw [List.length_append] at this; simp at this; omega
  have cab := Lib.hid (fun W => points_txt (a ++ b) W (by rw [List.length_append]; omega) (allPt_append HA.out HB.out))
  have ca := Lib.hid (fun W => ownout_txt a W (by omega) HA.out)
  have cb := Lib.hid (fun W => ownout_txt b W (by omega) HB.out)
  have pab := Lib.hid (fun W => plain_txt (a ++ b) W (by rw [List.length_append]; omega) (allPt_append HA.out HB.out))
  rw [List.filter_append] at pab
  have pa := Lib.hid (fun W => plain_txt a W (by omega) HA.out)
  have pb := Lib.hid (fun W => plain_txt b W (by omega) HB.out)
  have k4 := txt_cat (a.filter inXml) (b.filter inXml)
  have z4 : (txt (a.filter inXml)).size ≤ 12000 := by have := txt_size (a.filter inXml); have := List.length_filter_le inXml a; omega
  have z5 : (txt (b.filter inXml)).size ≤ 12000 := by have := txt_size (b.filter inXml); have := List.length_filter_le inXml b; omega
  have sab := Lib.hid (fun W => squeeze_txt (a ++ [32] ++ b) W (by rw [List.length_append, List.length_append]; simp; omega) (allPt_append (allPt_append HA.out allPt_blank) HB.out))
  have sa := Lib.hid (fun W => squeeze_txt a W (by omega) HA.out)
  have sb := Lib.hid (fun W => squeeze_txt b W (by omega) HB.out)
  have PA := sqOf_allPt a HA.out
  have PB := sqOf_allPt b HB.out
  have la := sq_small a
  have lb := sq_small b
  have sc := Lib.hid (fun W => squeeze_txt ((sqOf a).1 ++ [32] ++ (sqOf b).1) W (by rw [List.length_append, List.length_append]; simp; omega) (allPt_append (allPt_append PA allPt_blank) PB))
  rw [sq_join2] at sc
  have k5 : txt (sqOf a).1 ++ ⟨#[32]⟩ = txt ((sqOf a).1 ++ [32]) := txt_cat (sqOf a).1 [32]
  have k6 := txt_cat ((sqOf a).1 ++ [32]) (sqOf b).1
  have z6 : (txt (sqOf a).1).size ≤ 30000 := by have := txt_size (sqOf a).1; omega
  have z7 : (txt (sqOf b).1).size ≤ 30000 := by have := txt_size (sqOf b).1; omega
  have z8 : (txt ((sqOf a).1 ++ [32])).size ≤ 30000 := by have := txt_size ((sqOf a).1 ++ [32]); rw [List.length_append] at this; simp at this; omega
  clear PA PB la lb hL hM
  generalize sqOf (a ++ [32] ++ b) = qab at *
  generalize a ++ [32] ++ b = axb at *
  generalize a ++ [32] = ax at *
  generalize (sqOf a).1 ++ [32] ++ (sqOf b).1 = pxq at *
  generalize (sqOf a).1 ++ [32] = px at *
  generalize (sqOf a).1 = p at *
  generalize (sqOf b).1 = q at *
  generalize a.filter inXml ++ b.filter inXml = fab at *
  generalize a.filter inXml = fa at *
  generalize b.filter inXml = fb at *
  go_enter Tryd.func10, Tryd.ntmps10
  go_wp2_with fail
  refine hf.mono ?_
  clear hf
  rintro e w1 ⟨rfl, B1⟩
  have c2 := hrs w1
  clear hrs
  go_wp2_with fail
  refine c2.mono ?_
  clear c2
  rintro e w2 ⟨rfl, b2⟩
  have B2 := B1.trans (b2.mono B1.size)
  clear b2 B1
  have c3 := hru w2
  clear hru
  go_wp2_with fail
  refine c3.mono ?_
  clear c3
  rintro e w3 ⟨rfl, b3⟩
  have B3 := B2.trans (b3.mono B2.size)
  clear b3 B2
  have HAB := Lib.hid (show (a ++ b).length ≤ 1000000 by rw [List.length_append]; have := HL.out; have := HM.out; omega)
  have c4 := cab.out w3
  clear cab
  generalize hab : a ++ b = ab at *
  have Hab := Lib.hid hab
  clear hab
  go_wp2_with fail
  refine c4.mono ?_
  clear c4
  rintro e w4 ⟨A, c, rfl, hcap, hR, b4⟩
  have B4 := B3.trans (b4.mono B3.size)
  clear b4 B3
  have hE : OwnI (w4.alloc (.cells #[] 3)) w4.heap.size (.slice (some ⟨w4.heap.size, 0, none⟩) 0 0) [] := World.ownsRow_made w4 #[] 0 (Nat.le_refl _) (by unfold maxLen; omega) (by simp)
  have D4 : Below w4.heap.size w4 (w4.alloc (.cells #[] 3)) := (Below.refl _ w4).alloc (Nat.le_refl _) _
  have c5 := ca.out (w4.alloc (.cells #[] 3))
  clear ca
  go_wp2_with fail
  refine c5.mono ?_
  clear c5
  rintro e w5 ⟨v1, rfl, hv1, b5⟩
  have hE := own_below hE b5
  have D5 := D4.trans (b5.mono D4.size)
  clear b5 D4
  have hz5 := D5.size
  go_wp2_with (at_builtin; refine appOwn rfl (.tmp 23) (.tmp 25) rfl w5 w4 w4.heap.size w4.heap.size _ _ _ [] a rfl rfl (by exact hE) (by exact hv1) (by simp) (by have := HL.out; omega) hz5 (Nat.le_refl _) D5 ?_)
  intro v2 w6 hown6 D6
  have hown6 : OwnI w6 w4.heap.size v2 a := by simpa using hown6
  clear hE hv1 D5 hz5
  have c7 := cb.out w6
  clear cb
  go_wp2_with fail
  refine c7.mono ?_
  clear c7
  rintro e w7 ⟨v3, rfl, hv3, b7⟩
  have hown7 : OwnI w7 w4.heap.size v2 a := own_below hown6 b7
  have D7 := D6.trans (b7.mono D6.size)
  clear b7 D6 hown6
  have hz7 := D7.size
  go_wp2_with (at_builtin; refine appOwn rfl (.tmp 26) (.tmp 28) rfl w7 w4 w4.heap.size w4.heap.size _ _ _ a b rfl rfl (by exact hown7) (by exact hv3) (by have := HL.out; omega) (by have := HM.out; omega) hz7 (Nat.le_refl _) D7 ?_)
  intro v4 w8 hown8 D8
  rw [Hab.out] at hown8
  clear hown7 hv3 D7 hz7
  obtain ⟨A', c', rfl, hcc, hR8⟩ := RI.of_own hown8
  have c9 := same_any A A' c c' ab ab w8 HAB.out (hR.below (Nat.le_refl _) D8) hR8
  rw [decide_eq_true rfl] at c9
  have B8 := B4.trans (D8.mono B4.size)
  clear hR hR8 hown8 B4 D8
  go_wp2_with fail
  refine c9.mono ?_
  clear c9
  rintro e w9 ⟨rfl, b9⟩
  have B9 := B8.trans (b9.mono B8.size)
  clear b9 B8
  have c10 := pab.out w9
  go_wp2_with fail
  refine c10.mono ?_
  clear c10
  rintro e w10 ⟨rfl, b10⟩
  have B10 := B9.trans (b10.mono B9.size)
  clear b10 B9
  have c11 := pa.out w10
  go_wp2_with fail
  refine c11.mono ?_
  clear c11
  rintro e w11 ⟨rfl, b11⟩
  have B11 := B10.trans (b11.mono B10.size)
  clear b11 B10
  have c12 := pb.out w11
  go_wp2_with fail
  refine c12.mono ?_
  clear c12
  rintro e w12 ⟨rfl, b12⟩
  have B12 := B11.trans (b12.mono B11.size)
  clear b12 B11
  have c13 := sab.out w12
  go_wp2_with fail
  refine c13.mono ?_
  clear c13
  rintro e w13 ⟨rfl, b13⟩
  have B13 := B12.trans (b13.mono B12.size)
  clear b13 B12
  have c14 := sa.out w13
  go_wp2_with fail
  refine c14.mono ?_
  clear c14
  rintro e w14 ⟨rfl, b14⟩
  have B14 := B13.trans (b14.mono B13.size)
  clear b14 B13
  have c15 := sb.out w14
  go_wp2_with fail
  refine c15.mono ?_
  clear c15
  rintro e w15 ⟨rfl, b15⟩
  have B15 := B14.trans (b15.mono B14.size)
  clear b15 B14
  have c16 := sc.out w15
  go_wp2_with fail
  refine c16.mono ?_
  clear c16
  rintro e w16 ⟨rfl, b16⟩
  have B16 := B15.trans (b16.mono B15.size)
  clear b16 B15
  go_wp2
  go_ret
  exact ⟨rfl, B16⟩
end Go.Proofs.YtfgpilkapipjbaaDoor
