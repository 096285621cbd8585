/-
  The walks of package link's canonPort, canonPath, canonQuery. Conditions: texts of at most a hundred thousand bytes that are a link's; the library's variables hold what they are laid with.
-/
import Derived.Test.YtlgggibdgfdmhaaGreatDoorKI
import Derived.Test.YtlgggibdgfdmhaaGreatDoorKJ
import Derived.Shelf.Strings.PiecesUse
namespace Go.Proofs.YtlgggibdgfdmhaaGreatDoor
open Go.RowKit
open Go.Lib

theorem Tryz.infoS : (Tryz.prog.info? 9).map (fun i => (i.zero, i.size, i.bytes)) = some (some (.string ⟨#[]⟩), 1, 16) := by kernel_rfl
def OwnS (w : World) (base : Nat) (v : Value) (ws : List (List UInt8)) : Prop := w.ownsRow base 9 1 v ws.length (ws.map fun x => Value.string ⟨x.toArray⟩)
theorem ownS_nil (w : World) (base : Nat) : OwnS w base (.slice none 0 0) [] := World.ownsRow_nil _ _ _ _
theorem appS {ops : Array Oper} {rest : List Oper} {o : Oper} {a : Act} {Q : Exit → Act → World → Prop} (hgd : o.guard = none) (s x : Operand)
    (ho : o.op = .call { callee := .builtin .append, args := #[s, x], argTypes := #[53, 53] }) (w w0 : World) (B base : Nat) (v : Value) (ws : List (List UInt8)) (l : List UInt8)
    (hs : a.eval s = v) (hown : OwnS w base v ws) (hx : a.eval x = .slice (some ⟨w.heap.size, 0, none⟩) 1 1) (hlen : ws.length + 1 ≤ 1000000) (hbase : base ≤ w.heap.size) (hB : B ≤ base) (hb : Below B w0 w)
    (h : ∀ v' w', OwnS w' base v' (ws ++ [l]) → Below B w0 w' → wpList Tryz.prog ops Q rest (a.put o.dst v') w') :
    wpList Tryz.prog ops Q (o :: rest) a (w.alloc (.cells #[.string ⟨l.toArray⟩] 9)) := by
  obtain ⟨i0, hi, hz0, hz1, hz2⟩ := info_parts Tryz.infoS
  refine wpList_append_own _ hgd s x 53 ho base 9 i0 (.string ⟨#[]⟩) 1 16 Tryz.underlying53 hi hz0 hz1 hz2 rfl (by decide) v ws.length _ hs (World.ownsRow.alloc hown _) ⟨w.heap.size, 0, none⟩ 1 1 [.string ⟨l.toArray⟩] hx rfl ?_ ?_ (by unfold maxLen; omega) (by omega) (by simp; omega) ?_
  · intro j u hj
    match j, hj with
    | 0, hj => simp at hj; subst hj; simp [Addr.add]
  · intro u hu; simp at hu; subst hu; rfl
  · intro v' w' hown' hgrow _
    refine h v' w' ?_ ?_
    · unfold OwnS
      rw [List.map_append, List.length_append]
      exact hown'
    · refine (hb.alloc (by omega) _).grown hgrow (by simp; omega) (fun k hk => ?_)
      have := (World.ownsRow.lt hown k hk).1
      omega

set_option maxRecDepth 100000 in
theorem canonPort_any (s : ByteArray) (n : Nat) (w : World) (_ : n ≤ 65535) : Calls Tryz.prog 39 #[.string s, .int .i64 n] w fun e w' => e = .returned (.int .i64 (cportL s.data.toList n)) ∧ w = w' := by
  have HC := Lib.hid (show cportL s.data.toList n = if s.data.toList = [104, 116, 116, 112] ∧ n = 80 ∨ s.data.toList = [104, 116, 116, 112, 115] ∧ n = 443 then 0 else n from rfl)
  generalize cportL s.data.toList n = c at *
  by_cases h1 : s.data.toList = [104, 116, 116, 112]
  · have e1 : (s.toList == ([104, 116, 116, 112] : List UInt8)) = true := by rw [eqS, h1]; rfl
    have e2 : (s.toList == ([104, 116, 116, 112, 115] : List UInt8)) = false := by rw [eqS, h1]; rfl
    by_cases h2 : n = 80
    · have HV := Lib.hid (show (c : Int) = 0 by rw [HC.out, if_pos (.inl ⟨h1, h2⟩)]; rfl)
      have e3 : ((n : Int) == 80) = true := by rw [h2]; rfl
      clear h1 h2
      go_enter Tryz.func39, Tryz.ntmps39
      go_wp2
      go_ret
      exact ⟨ret_int HV.out.symm, rfl⟩
    · have HV := Lib.hid (show (c : Int) = n by rw [HC.out, if_neg (by rintro (⟨_, h⟩ | ⟨h, _⟩); exact h2 h; rw [h1] at h; cases h)])
      have e3 : ((n : Int) == 80) = false := by rw [beq_eq_false_iff_ne]; omega
      clear h1 h2
      go_enter Tryz.func39, Tryz.ntmps39
      go_wp2
      go_ret
      exact ⟨ret_int HV.out.symm, rfl⟩
  · have e1 : (s.toList == ([104, 116, 116, 112] : List UInt8)) = false := by rw [eqS]; simpa using h1
    by_cases h2 : s.data.toList = [104, 116, 116, 112, 115]
    · have e2 : (s.toList == ([104, 116, 116, 112, 115] : List UInt8)) = true := by rw [eqS, h2]; rfl
      by_cases h3 : n = 443
      · have HV := Lib.hid (show (c : Int) = 0 by rw [HC.out, if_pos (.inr ⟨h2, h3⟩)]; rfl)
        have e3 : ((n : Int) == 443) = true := by rw [h3]; rfl
        clear h1 h2 h3
        go_enter Tryz.func39, Tryz.ntmps39
        go_wp2
        go_ret
        exact ⟨ret_int HV.out.symm, rfl⟩
      · have HV := Lib.hid (show (c : Int) = n by rw [HC.out, if_neg (by rintro (⟨h, _⟩ | ⟨_, h⟩); exact h1 h; exact h3 h)])
        have e3 : ((n : Int) == 443) = false := by rw [beq_eq_false_iff_ne]; omega
        clear h1 h2 h3
        go_enter Tryz.func39, Tryz.ntmps39
        go_wp2
        go_ret
        exact ⟨ret_int HV.out.symm, rfl⟩
    · have e2 : (s.toList == ([104, 116, 116, 112, 115] : List UInt8)) = false := by rw [eqS]; simpa using h2
      have HV := Lib.hid (show (c : Int) = n by rw [HC.out, if_neg (by rintro (⟨h, _⟩ | ⟨h, _⟩); exact h1 h; exact h2 h)])
      clear h1 h2
      go_enter Tryz.func39, Tryz.ntmps39
      go_wp2
      go_ret
      exact ⟨ret_int HV.out.symm, rfl⟩
theorem norm_length (l : List UInt8) (h : tailOk l = true) : (normL l).length ≤ l.length := by
  rw [← unesc_tail l h]
  have := unesc_length l []
  simpa using this
set_option maxRecDepth 100000 in
theorem canonPath_any (s : ByteArray) (w : World) (hE : Env w) (hs : s.size ≤ 100000) (ht : tailOk s.data.toList = true) : Calls Tryz.prog 40 #[.string s] w fun e w' => e = .returned (.string (bs (cpathL s.data.toList))) ∧ Below w.heap.size w w' := by
  have hu := unescape_any s w (by omega)
  rw [unesc_tail _ ht] at hu
  have hnl := norm_length _ ht
  rw [← size_list] at hnl
  have hd := fun W hW => dots_any (bs (normL s.data.toList)) W hW (by rw [bs_size]; omega)
  rw [bs_list] at hd
  have HC := Lib.hid (show cpathL s.data.toList = if (dotsL (normL s.data.toList)).isEmpty then [47] else dotsL (normL s.data.toList) from rfl)
  generalize cpathL s.data.toList = cp at *
  generalize bs (normL s.data.toList) = u at *
  generalize dotsL (normL s.data.toList) = d at *
  clear ht
  cases d with
  | nil =>
    have HV := Lib.hid (show (⟨#[47]⟩ : ByteArray) = bs cp by rw [HC.out]; rfl)
    have en : ((bs []).toList == ([] : List UInt8)) = true := by rw [eqS]; rfl
    go_enter Tryz.func40, Tryz.ntmps40
    go_wp2_with fail
    refine hu.mono ?_
    clear hu
    rintro e w1 ⟨rfl, b1⟩
    have hd1 := hd w1 (hE.below b1)
    clear hd
    go_wp2_with fail
    refine hd1.mono ?_
    clear hd1
    rintro e w2 ⟨rfl, b2⟩
    have B2 := b1.trans (b2.mono b1.size)
    go_wp2
    go_ret
    exact ⟨ret_str HV.out, B2⟩
  | cons x r =>
    have HV := Lib.hid (show bs (x :: r) = bs cp by rw [HC.out]; rfl)
    have en : ((bs (x :: r)).toList == ([] : List UInt8)) = false := by rw [eqS]; rfl
    generalize bs (x :: r) = D at *
    go_enter Tryz.func40, Tryz.ntmps40
    go_wp2_with fail
    refine hu.mono ?_
    clear hu
    rintro e w1 ⟨rfl, b1⟩
    have hd1 := hd w1 (hE.below b1)
    clear hd
    go_wp2_with fail
    refine hd1.mono ?_
    clear hd1
    rintro e w2 ⟨rfl, b2⟩
    have B2 := b1.trans (b2.mono b1.size)
    go_wp2
    go_ret
    exact ⟨ret_str HV.out, B2⟩
theorem split38 (s : ByteArray) : splitB ⟨#[38]⟩ 0 (countB s ⟨#[38]⟩) s = (splitP 38 s.data.toList).map bs := by
  induction hn : s.size using Nat.strongRecOn generalizing s with
  | _ n ih =>
    rcases cut1_or s.data.toList 38 with ⟨h, _⟩ | ⟨a, b, hl, h, _⟩
    · have hi : indexB s ⟨#[38]⟩ = -1 := index_absent _ [] 38 h
      rw [countB_miss _ _ hi, splitB_zero, splitP_no 38 _ h]; rfl
    · have hi : indexB s ⟨#[38]⟩ = a.length := by
        have := index_mid a b [] 38 h
        show index s.data.toList [38] = _
        rw [hl]; simpa using this
      have hsz : s.size = a.length + 1 + b.length := by rw [size_list, hl]; simp; omega
      rw [countB_hit s ⟨#[38]⟩ a.length (Nat.le_refl _) hi, Nat.add_comm 1, splitB_hit _ _ _ _ a.length hi]
      have hb : s.extract (a.length + (⟨#[38]⟩ : ByteArray).size) s.size = bs b := by
        rw [show (⟨#[38]⟩ : ByteArray).size = 1 from rfl, ext_drop, hl]
        congr 1
        rw [List.drop_append, List.drop_of_length_le (by omega), show a.length + 1 - a.length = 1 by omega]; rfl
      have ha : s.extract 0 (a.length + 0) = bs a := by rw [ext_take, hl, Nat.add_zero, List.take_left]
      rw [ha, hb, ih (bs b).size (by rw [bs_size]; omega) (bs b) rfl, bs_list, hl, splitP_mid 38 a b h]
      rfl
theorem joinP_lib (xs : List (List UInt8)) : Lib.join xs [38] = joinP 38 xs := by
  induction xs with
  | nil => rfl
  | cons x r ih =>
    cases r with
    | nil => rw [Lib.join_one]; rfl
    | cons y r =>
      rw [joinP_cons 38 x (by simp), ← ih]
      simp [Lib.join, List.intercalate, List.intersperse]
theorem split_length (c : UInt8) (l : List UInt8) : (splitP c l).length ≤ l.length + 1 := by
  refine splitP_ind (P := fun l => (splitP c l).length ≤ l.length + 1) c ?_ ?_ l
  · intro l h; rw [splitP_no c l h]; simp
  · intro a b h ih; rw [splitP_mid c a b h]; simp; omega
theorem join_length_le (xs : List (List UInt8)) (f : List UInt8 → Bool) : (joinP 38 (xs.filter f)).length ≤ (joinP 38 xs).length := by
  have key : ∀ xs : List (List UInt8), (joinP 38 xs).length + 1 ≥ (xs.map (fun x => x.length + 1)).sum ∧ (xs ≠ [] → (joinP 38 xs).length + 1 = (xs.map (fun x => x.length + 1)).sum) := by
    intro xs
    induction xs with
    | nil => exact ⟨by simp, fun h => absurd rfl h⟩
    | cons x r ih =>
      cases r with
      | nil => simp [joinP]
      | cons y r =>
        have := ih.2 (by simp)
        rw [joinP_cons 38 x (by simp)]
        simp only [List.length_append, List.length_cons, List.map_cons, List.sum_cons] at this ⊢
        exact ⟨by omega, fun _ => by omega⟩
  have hs : ((xs.filter f).map (fun x => x.length + 1)).sum ≤ (xs.map (fun x => x.length + 1)).sum := by
    induction xs with
    | nil => simp
    | cons x r ih =>
      rw [List.filter_cons]
      split
      · simp only [List.map_cons, List.sum_cons]; omega
      · simp only [List.map_cons, List.sum_cons]; omega
  by_cases h0 : xs.filter f = []
  · rw [h0]; simp [joinP]
  · have h1 := (key (xs.filter f)).2 h0
    have h2 := (key xs).2 (fun e => h0 (by rw [e]; rfl))
    omega
theorem cquery_length (q : List UInt8) (h : tailOk q = true) : (cqueryL q).length ≤ q.length := by
  have h1 := join_length_le (splitP 38 (normL q)) (fun x => !utmB x)
  rw [joinP_split] at h1
  exact Nat.le_trans h1 (norm_length q h)
theorem ownS_form {w : World} {base : Nat} {v : Value} {ws : List (List UInt8)} (h : OwnS w base v ws) : (v = .slice none 0 0 ∧ ws = []) ∨ ∃ g cap, v = .slice (some ⟨g, 0, none⟩) ws.length cap ∧ ws.length ≤ cap ∧ g < w.heap.size ∧ ∀ j x, (ws.map bs)[j]? = some x → w.cell? ⟨g, 0 + j, none⟩ = some (.string x) := by
  have hlt := World.ownsRow.lt h
  rcases h.2 with ⟨h1, h2⟩ | ⟨g, cap, cur, h1, h2, h3, h4, h5, h6⟩
  · exact .inl ⟨h1, List.eq_nil_of_length_eq_zero h2⟩
  · refine .inr ⟨g, cap, h1, h4, (hlt g (by rw [h1]; rfl)).2, fun j x hx => ?_⟩
    subst h1
    have hj : j < ws.length := by
      have := (List.getElem?_eq_some_iff.1 hx).1
      simpa using this
    have := World.ownsRow.cellAt h j (by omega)
    rw [Nat.zero_add, this]
    rw [List.getElem?_map, List.getElem?_eq_getElem hj] at hx ⊢
    simp only [Option.map_some, Option.some.injEq] at hx ⊢
    rw [← hx]; rfl
theorem OwnS.below {w w' : World} {base : Nat} {v : Value} {ws : List (List UInt8)} (h : OwnS w base v ws) (hb : Below w.heap.size w w') : OwnS w' base v ws := own_below h hb
set_option maxRecDepth 100000 in
set_option maxHeartbeats 1000000 in
theorem canonQuery_any (s : ByteArray) (w : World) (hE : Env w) (hs : s.size ≤ 100000) (ht : tailOk s.data.toList = true) : Calls Tryz.prog 38 #[.string s] w fun e w' => e = .returned (.string (bs (cqueryL s.data.toList))) ∧ Below w.heap.size w w' := by
  have hu := unescape_any s w (by omega)
  rw [unesc_tail _ ht] at hu
  have hnl := norm_length _ ht
  have hjl := cquery_length _ ht
  rw [← size_list] at hnl hjl
  have HQ := Lib.hid (show cqueryL s.data.toList = joinP 38 ((splitP 38 (normL s.data.toList)).filter (fun x => !utmB x)) from rfl)
  have hsp := split38 (bs (normL s.data.toList))
  rw [bs_list] at hsp
  have hsl := split_length 38 (normL s.data.toList)
  have hus : (bs (normL s.data.toList)).size ≤ 100000 := by rw [bs_size]; omega
  have hcount : countB (bs (normL s.data.toList)) ⟨#[38]⟩ + 1 = (splitP 38 (normL s.data.toList)).length := by
    have h1 := splitB_all ⟨#[38]⟩ (Nat.le_refl _) 0 _ (bs (normL s.data.toList)) rfl
    rw [hsp, List.length_map] at h1
    exact h1.symm
  generalize normL s.data.toList = nl at *
  generalize bs nl = u at *
  generalize splitP 38 nl = xs at *
  generalize cqueryL s.data.toList = cq at *
  have HCQ : Hid (∀ x ∈ xs, True) := fun _ _ => trivial
  have hxl : xs.length ≤ 100001 := by omega
  clear ht hsl
  go_enter Tryz.func38, Tryz.ntmps38
  go_wp2_with fail
  refine hu.mono ?_
  clear hu
  rintro e w1 ⟨rfl, b1⟩
  obtain ⟨m, hm⟩ := (hE.below b1).max
  have hspl := libSplit u ⟨#[38]⟩ m w1 (by omega) hm (Nat.le_refl _)
  rw [hsp, hcount] at hspl
  clear hsp hcount hm
  go_wp2_with fail
  refine hspl.mono ?_
  clear hspl
  rintro e w2 ⟨rfl, hw2⟩
  have hcells : ∀ j x, (xs.map bs)[j]? = some x → w2.cell? ⟨w1.heap.size, j, none⟩ = some (.string x) := fun j x h => by rw [hw2]; exact pieces_cell_at w1 (xs.map bs) 9 j x h
  have B2 : Below w.heap.size w w2 := by rw [hw2]; exact b1.alloc b1.size _
  have hz2 : w1.heap.size < w2.heap.size := by rw [hw2]; simp
  have hz1 := b1.size
  have HCE := Lib.hid hcells
  clear hw2 hcells b1
  go_wp2
  go_loopw [3, 10] (fun v i wr => ∃ k : Nat, k ≤ xs.length ∧ i = .int .i64 k ∧ OwnS wr w2.heap.size v ((xs.take k).filter (fun x => !utmB x)) ∧ Below w2.heap.size w2 wr) (fun _ i _ => xs.length - (RowKit.intOf i).toNat)
  case atStart => exact ⟨0, Nat.zero_le _, rfl, ownS_nil _ _, Below.refl _ _⟩
  case round =>
    obtain ⟨k, hk, rfl, hown, hbw⟩ := hrel
    have hbsz := hbw.size
    have hfl : ((xs.take k).filter (fun x => !utmB x)).length ≤ k := by
      have := List.length_filter_le (fun x => !utmB x) (xs.take k)
      rw [List.length_take] at this; omega
    by_cases hlt : k < xs.length
    · have hx := HCE.out k (bs xs[k]) (by rw [List.getElem?_map, List.getElem?_eq_getElem hlt]; rfl)
      have hx2 := (hbw.cell (p := ⟨w1.heap.size, k, none⟩) (by exact hz2)).trans hx
      have HT := Lib.hid (List.take_succ_eq_append_getElem hlt)
      have hpf := hasPrefix_any (bs xs[k]) ⟨#[117, 116, 109, 95]⟩ wr
      rw [bs_list, show (⟨#[117, 116, 109, 95]⟩ : ByteArray).data.toList = [117, 116, 109, 95] from rfl] at hpf
      have HUB := Lib.hid (show utmB xs[k] = ([117, 116, 109, 95] : List UInt8).isPrefixOf xs[k] from rfl)
      rw [← HUB.out] at hpf
      clear hx
      generalize xs[k] = x at *
      cases hub : utmB x with
      | true =>
        rw [hub] at hpf
        have HF := Lib.hid (show (xs.take (k + 1)).filter (fun x => !utmB x) = (xs.take k).filter (fun x => !utmB x) by rw [HT.out, List.filter_append]; simp [hub])
        clear hub
        go_wp2_with fail
        refine hpf.mono ?_
        clear hpf
        rintro e w3 ⟨rfl, rfl⟩
        go_wp2
        go_roundw
        case rel => exact ⟨k + 1, by omega, by go_num, by rw [HF.out]; exact hown, hbw⟩
        case measure => simp [RowKit.intOf]; omega
      | false =>
        rw [hub] at hpf
        have HF := Lib.hid (show (xs.take (k + 1)).filter (fun x => !utmB x) = (xs.take k).filter (fun x => !utmB x) ++ [x] by rw [HT.out, List.filter_append]; simp [hub])
        clear hub
        go_wp2_with fail
        refine hpf.mono ?_
        clear hpf
        rintro e w3 ⟨rfl, rfl⟩
        go_wp2_with (at_builtin; refine appS rfl _ _ rfl wr w2 w2.heap.size w2.heap.size _ ((xs.take k).filter (fun x => !utmB x)) x rfl (by exact hown) rfl (by omega) (by omega) (Nat.le_refl _) hbw ?_)
        intro v' w4 hown4 B4
        rw [← HF.out] at hown4
        clear hown hbw
        go_wp2
        go_roundw
        case rel => exact ⟨k + 1, by omega, by go_num, hown4, B4⟩
        case measure => simp [RowKit.intOf]; omega
    · have HE2 := Lib.hid (show cq = joinP 38 ((xs.take k).filter (fun x => !utmB x)) by rw [HQ.out, List.take_of_length_le (by omega)])
      rw [HE2.out] at hjl
      have hb0 : Below w.heap.size w wr := B2.trans (hbw.mono B2.size)
      generalize (xs.take k).filter (fun x => !utmB x) = ys at *
      rcases ownS_form hown with ⟨rfl, rfl⟩ | ⟨g, cap, rfl, hcap, hg, hc⟩
      · have hj := libJoin0 none 0 ⟨#[38]⟩ wr
        have HV := Lib.hid (show (⟨#[]⟩ : ByteArray) = bs cq by rw [HE2.out]; rfl)
        clear hown
        go_wp2_with fail
        refine hj.mono ?_
        clear hj
        rintro e w5 ⟨rfl, rfl⟩
        go_wp2
        go_ret
        exact ⟨ret_str HV.out, hb0⟩
      · have hj := libJoin g 0 cap (ys.map bs) ⟨#[38]⟩ wr hc hg (by simp; omega) (by simpa using hcap) (by
          rw [List.map_map, show ((fun x : ByteArray => x.data.toList) ∘ bs) = id from rfl, List.map_id, show (⟨#[38]⟩ : ByteArray).data.toList = [38] from rfl, joinP_lib]; omega)
        rw [List.map_map, show ((fun x : ByteArray => x.data.toList) ∘ bs) = id from rfl, List.map_id, show (⟨#[38]⟩ : ByteArray).data.toList = [38] from rfl, joinP_lib, List.length_map] at hj
        have HV := Lib.hid (show bs (joinP 38 ys) = bs cq by rw [HE2.out])
        have hj : Calls Tryz.prog 62 #[.slice (some ⟨g, 0, none⟩) ys.length cap, .string ⟨#[38]⟩] wr fun e w' => e = .returned (.string (bs (joinP 38 ys))) ∧ Below wr.heap.size wr w' := hj
        clear hown hc
        go_wp2_with fail
        refine hj.mono ?_
        clear hj
        rintro e w5 ⟨rfl, b5⟩
        have B5 := hb0.trans (b5.mono hb0.size)
        go_wp2
        go_ret
        exact ⟨ret_str HV.out, B5⟩
end Go.Proofs.YtlgggibdgfdmhaaGreatDoor
