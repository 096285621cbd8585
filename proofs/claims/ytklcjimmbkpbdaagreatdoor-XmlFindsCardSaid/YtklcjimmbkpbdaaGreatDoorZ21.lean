/-
  Of the proofs of layer 8 (elements of XML): the parts XL XM. No conditions.
-/
import Derived.Test.YtklcjimmbkpbdaaGreatDoorZ20
namespace Go.Proofs.YtklcjimmbkpbdaaGreatDoor
open Go.RowKit
open Go.Lib

theorem eqS8 (a b : Bt) : ((bs a).toList == (bs b).toList) = (a == b) := by rw [bs_toList, bs_toList]
theorem find_take {l : XS} {k : Nat} (h : k < l.length) (p : Bt) : findX (l.take (k + 1)) p = if l[k].1 = p then some l[k].2 else findX (l.take k) p := by
  rw [List.take_succ_eq_append_getElem h]
  obtain ⟨q, v⟩ := l[k]
  exact find_snoc p q v _
/-- What is told of a prefix. -/
def SpO (o : Option Bt) (w : World) (e : Ending) (w' : World) : Prop := e = .returned (.tuple #[.string (bs (o.getD [])), .bool o.isSome]) ∧ w = w'
theorem SpO.yes {o : Option Bt} {v : Bt} {w : World} (h : o = some v) : SpO o w (.returned (.tuple #[.string (bs v), .bool true])) w := by subst h; exact ⟨rfl, rfl⟩
theorem SpO.no {o : Option Bt} {w : World} (h : o = none) : SpO o w (.returned (.tuple #[.string ⟨#[]⟩, .bool false])) w := by subst h; exact ⟨rfl, rfl⟩
set_option maxRecDepth 100000 in
set_option maxHeartbeats 1000000 in
theorem space_any {S cap : Nat} {l : XS} {w : World} (H : ScR S cap l w) (hl : l.length ≤ 1000000) (p : Bt) :
    Calls Tryz.prog 103 #[ScV S l.length cap, .string (bs p)] w (SpO (findX l p) w) := by
  have HC := Lib.hid H.cells
  obtain ⟨n, hn⟩ : ∃ n, l.length = n := ⟨_, rfl⟩
  have HN := Lib.hid hn
  obtain ⟨o, ho⟩ : ∃ o, findX l p = o := ⟨_, rfl⟩
  have HO := Lib.hid ho
  have H0 : Hid (findX (l.take n) p = o) := Lib.hid (by rw [← hn, List.take_length]; exact ho)
  obtain ⟨P, hP⟩ : ∃ P, bs p = P := ⟨_, rfl⟩
  have HP := Lib.hid hP
  rw [ho, hn, hP]
  rw [hn] at hl
  clear H hn ho hP
  go_enter Tryz.func103, Tryz.ntmps103
  go_wp2
  go_loop [6] (fun i => (i = .int .i64 (-1) ∧ Hid (o = none)) ∨ (∃ k : Nat, k < n ∧ i = .int .i64 k ∧ Hid (findX (l.take (k + 1)) p = o))) (fun i => (RowKit.intOf i + 1).toNat)
  case atStart =>
    by_cases h0 : n = 0
    · subst h0
      exact .inl ⟨rfl, Lib.hid (by rw [← H0.out]; rfl)⟩
    · refine .inr ⟨n - 1, by omega, ?_, Lib.hid (by rw [show n - 1 + 1 = n by omega]; exact H0.out)⟩
      congr 1
      omega
  case round =>
    rcases hrel with ⟨rfl, HNo⟩ | ⟨k, hk, rfl, HF⟩
    · go_wp2
      go_ret2
      exact SpO.no HNo.out
    · have hkl : k < l.length := by rw [HN.out]; exact hk
      obtain ⟨c0, c1⟩ := RC.s2 HC.out k hkl
      have HT := Lib.hid (find_take hkl p)
      obtain ⟨d, hd⟩ : ∃ d, l[k] = d := ⟨_, rfl⟩
      rw [hd] at c0 c1 HT
      simp only [Nat.zero_add] at c0 c1
      have heq := eqS8 d.1 p
      rw [HP.out] at heq
      clear hd
      by_cases hq : d.1 = p
      · have hb : (d.1 == p) = true := by rw [beq_iff_eq]; exact hq
        rw [hb] at heq
        have HY : Hid (o = some d.2) := Lib.hid (by rw [← HF.out, HT.out, if_pos hq])
        clear hq hb HT HF
        go_wp2
        go_ret2
        exact SpO.yes HY.out
      · have hb : (d.1 == p) = false := beq_eq_false_iff_ne.2 hq
        rw [hb] at heq
        have HF2 : Hid (findX (l.take k) p = o) := Lib.hid (by rw [← HF.out, HT.out, if_neg hq])
        clear hq hb HT HF
        go_wp2
        go_round
        case rel =>
          by_cases h0 : k = 0
          · subst h0
            exact .inl ⟨rfl, Lib.hid (by rw [← HF2.out]; rfl)⟩
          · refine .inr ⟨k - 1, by omega, ?_, Lib.hid (by rw [show k - 1 + 1 = k by omega]; exact HF2.out)⟩
            congr 1
            omega
        case measure => simp [RowKit.intOf]
/-- What an attribute declares. -/
def DcO (o : Option Bt) (w : World) (e : Ending) (w' : World) : Prop := e = .returned (.tuple #[.string (bs (o.getD [])), .bool o.isSome]) ∧ Below w.heap.size w w'
theorem DcO.yes {o : Option Bt} {v : Bt} {w w' : World} (h : o = some v) (hb : Below w.heap.size w w') : DcO o w (.returned (.tuple #[.string (bs v), .bool true])) w' := by subst h; exact ⟨rfl, hb⟩
theorem DcO.no {o : Option Bt} {w w' : World} (h : o = none) (hb : Below w.heap.size w w') : DcO o w (.returned (.tuple #[.string ⟨#[]⟩, .bool false])) w' := by subst h; exact ⟨rfl, hb⟩
theorem eqK8 (a k : Bt) (b : Bool) (h : (a == k) = b) : ((bs a).toList == k) = b := by rw [bs_toList]; exact h
set_option maxRecDepth 100000 in
theorem declares_any (m : XM) (w : World) : Calls Tryz.prog 121 #[QV m.1] w (DcO (declX m) w) := by
  obtain ⟨⟨p, n⟩, v⟩ := m
  have HD : Hid (declX ((p, n), v) = if p = xmlnsW then some n else if p = [] ∧ n = xmlnsW then some [] else none) := Lib.hid rfl
  obtain ⟨o, ho⟩ : ∃ o, declX ((p, n), v) = o := ⟨_, rfl⟩
  rw [ho] at HD ⊢
  have HB := Lib.hid (below_alloc8 w (.cells #[.string (bs p), .string (bs n)] TQu))
  clear ho
  show Calls Tryz.prog 121 #[.agg #[.string (bs p), .string (bs n)]] w (DcO o w)
  by_cases h1 : p = xmlnsW
  · have HY : Hid (o = some n) := Lib.hid (by rw [HD.out, if_pos h1])
    have hq : ((bs p).toList == [120, 109, 108, 110, 115]) = true := by rw [bs_toList, h1]; rfl
    have hq2 : (bs p).toList = [120, 109, 108, 110, 115] := by rw [bs_toList, h1]; rfl
    clear h1 HD
    go_enter Tryz.func121, Tryz.ntmps121
    go_wp2
    go_ret2
    exact DcO.yes HY.out HB.out
  · have hq : ((bs p).toList == [120, 109, 108, 110, 115]) = false := by rw [bs_toList]; exact beq_eq_false_iff_ne.2 h1
    have hq2 : ¬ (bs p).toList = [120, 109, 108, 110, 115] := by rw [bs_toList]; exact h1
    by_cases h2 : p = []
    · subst h2
      have he : (bs ([] : Bt)).toList = [] := bs_toList []
      by_cases h3 : n = xmlnsW
      · have HY : Hid (o = some []) := Lib.hid (by rw [HD.out, if_neg h1, if_pos ⟨rfl, h3⟩])
        have hr : ((bs n).toList == [120, 109, 108, 110, 115]) = true := by rw [bs_toList, h3]; rfl
        have hr2 : (bs n).toList = [120, 109, 108, 110, 115] := by rw [bs_toList, h3]; rfl
        clear h1 HD h3
        go_enter Tryz.func121, Tryz.ntmps121
        go_wp2
        go_ret2
        exact DcO.yes (v := []) HY.out HB.out
      · have HY : Hid (o = none) := Lib.hid (by rw [HD.out, if_neg h1, if_neg (fun h => h3 h.2)])
        have hr : ((bs n).toList == [120, 109, 108, 110, 115]) = false := by rw [bs_toList]; exact beq_eq_false_iff_ne.2 h3
        have hr2 : ¬ (bs n).toList = [120, 109, 108, 110, 115] := by rw [bs_toList]; exact h3
        clear h1 HD h3
        go_enter Tryz.func121, Tryz.ntmps121
        go_wp2
        go_ret2
        exact DcO.no HY.out HB.out
    · have HY : Hid (o = none) := Lib.hid (by rw [HD.out, if_neg h1, if_neg (fun h => h2 h.1)])
      have he : ¬ (bs p).toList = [] := by rw [bs_toList]; exact h2
      have he2 : (bs p).toList.isEmpty = false := by rw [bs_toList]; cases p with
        | nil => exact absurd rfl h2
        | cons _ _ => rfl
      clear h1 HD h2
      go_enter Tryz.func121, Tryz.ntmps121
      go_wp2
      go_ret2
      exact DcO.no HY.out HB.out
/-- An attribute in its space. -/
def AtO (o : Option XA) (w : World) (e : Ending) (w' : World) : Prop := (∃ x y z : Bt, e = .returned (.tuple #[.agg #[.string (bs x), .string (bs y), .string (bs z)], .bool o.isSome]) ∧ ∀ a, o = some a → x = a.1 ∧ y = a.2.1 ∧ z = a.2.2) ∧ Below w.heap.size w w'
theorem AtO.yes {o : Option XA} {a : XA} {w w' : World} (h : o = some a) (hb : Below w.heap.size w w') : AtO o w (.returned (.tuple #[.agg #[.string (bs a.1), .string (bs a.2.1), .string (bs a.2.2)], .bool true])) w' := by
  subst h
  exact ⟨⟨_, _, _, rfl, fun _ h => (by cases h; exact ⟨rfl, rfl, rfl⟩)⟩, hb⟩
theorem AtO.no {o : Option XA} {x y z : Bt} {w w' : World} (h : o = none) (hb : Below w.heap.size w w') : AtO o w (.returned (.tuple #[.agg #[.string (bs x), .string (bs y), .string (bs z)], .bool false])) w' := by
  subst h
  exact ⟨⟨x, y, z, rfl, fun _ h => (by cases h)⟩, hb⟩
theorem below_a3 (w : World) (o1 o2 o3 : Obj) : Below w.heap.size w (((w.alloc o1).alloc o2).alloc o3) := (((Below.refl _ w).alloc (Nat.le_refl _) o1).alloc (by simp) o2).alloc (by simp; omega) o3
set_option maxRecDepth 100000 in
theorem scattr_any {S cap : Nat} {l : XS} {w : World} (H : ScR S cap l w) (hl : l.length ≤ 1000000) (m : XM) :
    Calls Tryz.prog 104 #[ScV S l.length cap, .agg #[sV m.1.1, sV m.1.2, sV m.2]] w (AtO (attrX l m) w) := by
  obtain ⟨⟨p, n⟩, v⟩ := m
  have HD : Hid (attrX l ((p, n), v) = if p = [] then some ([], n, v) else (findX l p).map fun sp => (sp, n, v)) := Lib.hid rfl
  obtain ⟨o, ho⟩ : ∃ o, attrX l ((p, n), v) = o := ⟨_, rfl⟩
  rw [ho] at HD ⊢
  show Calls Tryz.prog 104 #[ScV S l.length cap, .agg #[.string (bs p), .string (bs n), .string (bs v)]] w (AtO o w)
  clear ho
  have HSp := Lib.hid (fun W (hW : ScR S cap l W) => space_any hW hl p)
  have HSc := Lib.hid (H.off (Off.of_below (below_a3 w (.cells #[.string (bs p), .string (bs n), .string (bs v)] TAt (0, 0)) (.cells #[.string ⟨#[]⟩, .string ⟨#[]⟩, .string ⟨#[]⟩] TA3 (0, 0)) (.cells #[.string ⟨#[]⟩, .string (bs n), .string (bs v)] TA3 (0, 0)))) (fun h => h))
  clear H
  by_cases h0 : p = []
  · subst h0
    have HY : Hid (o = some ([], n, v)) := Lib.hid (by rw [HD.out, if_pos rfl])
    have he : (bs ([] : Bt)).toList = [] := bs_toList []
    clear HD
    go_enter Tryz.func104, Tryz.ntmps104
    go_wp2
    exact bodyPost_ret (v := .tuple #[.agg #[.string ⟨#[]⟩, .string (bs n), .string (bs v)], .bool true]) (by simp [results, Tryz.results104, go_sem]) rfl (AtO.yes (a := ([], n, v)) HY.out (below_a3 _ _ _ _))
  · have he : ¬ (bs p).toList = [] := by rw [bs_toList]; exact h0
    have he2 : (bs p).toList.isEmpty = false := by rw [bs_toList]; cases p with
      | nil => exact absurd rfl h0
      | cons _ _ => rfl
    cases hf : findX l p with
    | none =>
      have HY : Hid (o = none) := Lib.hid (by rw [HD.out, if_neg h0, hf]; rfl)
      rw [hf] at HSp
      clear HD h0 hf
      go_enter Tryz.func104, Tryz.ntmps104
      go_wp2_with fail
      refine (HSp.out _ HSc.out).mono ?_
      rintro e w1 ⟨rfl, rfl⟩
      go_wp2
      exact bodyPost_ret (v := .tuple #[.agg #[.string ⟨#[]⟩, .string (bs n), .string (bs v)], .bool false]) (by simp [results, Tryz.results104, go_sem]; first | done | rfl) rfl (AtO.no (x := []) (y := n) (z := v) HY.out (below_a3 _ _ _ _))
    | some sp =>
      have HY : Hid (o = some (sp, n, v)) := Lib.hid (by rw [HD.out, if_neg h0, hf]; rfl)
      rw [hf] at HSp
      clear HD h0 hf
      go_enter Tryz.func104, Tryz.ntmps104
      go_wp2_with fail
      refine (HSp.out _ HSc.out).mono ?_
      rintro e w1 ⟨rfl, rfl⟩
      go_wp2
      exact bodyPost_ret (v := .tuple #[.agg #[.string (bs sp), .string (bs n), .string (bs v)], .bool true]) (by simp [results, Tryz.results104, go_sem]; first | done | rfl) rfl (AtO.yes (a := (sp, n, v)) HY.out (below_a3 _ _ _ _))
end Go.Proofs.YtklcjimmbkpbdaaGreatDoor
namespace Go.Proofs.YtklcjimmbkpbdaaGreatDoor
open Go.RowKit
open Go.Lib

theorem appSc {ops : Array Oper} {rest : List Oper} {o : Oper} {a : Act} {Q : Exit → Act → World → Prop} (hgd : o.guard = none) (s x : Operand)
    (ho : o.op = .call { callee := .builtin .append, args := #[s, x], argTypes := #[55, 55] }) (w : World) {S cap n : Nat} {l : XS} (H : ScR S cap l w) (d : Bt × Bt) (hl : l.length ≤ 1000000) (hn : l.length = n)
    (hs : a.eval s = ScV S n cap) (hx : a.eval x = .slice (some ⟨w.heap.size, 0, none⟩) 1 1)
    (h : ∀ S' cap' w', ScR S' cap' (l ++ [d]) w' → Off (fun b => b = S) w w' → KeepS S l.length w w' → (S' = S ∨ w.heap.size ≤ S') → wpList Tryz.prog ops Q rest (a.put o.dst (ScV S' (n + 1) cap')) w') :
    wpList Tryz.prog ops Q (o :: rest) a (w.alloc (.cells #[sV d.1, sV d.2] TBi)) := by
  subst hn
  refine wpList_plain hgd fun K hK => ?_
  obtain ⟨S', cap', w', hr, h2, h3, h4, h5⟩ := sc_app H d hl o.type
  unfold Oper.wp execOp
  simp only [ho, resolve, invoke, builtin, Sem.run_bind, Sem.run_pure, Result.andThen_ok, List.map_toArray, List.map_cons, List.map_nil, hs, hx, hr]
  exact hK _ _ (h S' cap' w' h2 h3 h4 h5)
theorem str3_one (a b c : ByteArray) : ∀ u ∈ [Value.string a, .string b, .string c], u.oneCell' = true := by
  intro u hu
  rcases List.mem_cons.1 hu with rfl | hu
  · rfl
  rcases List.mem_cons.1 hu with rfl | hu
  · rfl
  rcases List.mem_cons.1 hu with rfl | hu
  · rfl
  · cases hu
def SmallM (ms : List XM) : Prop := ∀ m ∈ ms, m.1.1.length ≤ 100000 ∧ m.1.2.length ≤ 100000
def badD (d : Bt × Bt) : Bool := !(d.1 == []) && d.2 == []
def madeX (ds : XS) : List XA := ds.map fun d => ([], d.1, [])
theorem made_uniq (ds : XS) : uniqX (madeX ds) = decide (ds.map (·.1)).Nodup := by
  unfold uniqX madeX
  rw [List.map_map]
  congr 1
  apply propext
  have : ((fun a : XA => (a.1, a.2.1)) ∘ fun d : Bt × Bt => (([], d.1, []) : XA)) = fun d => (([] : Bt), d.1) := rfl
  rw [this, show (fun d : Bt × Bt => (([] : Bt), d.1)) = (fun x => (([] : Bt), x)) ∘ (fun d : Bt × Bt => d.1) from rfl, ← List.map_map]
  constructor
  · intro h
    exact List.Pairwise.of_map (fun x => (([] : Bt), x)) (fun a b hne e => hne (by rw [e])) h
  · intro h
    exact List.Pairwise.map (fun x => (([] : Bt), x)) (fun a b hne e => hne (by injection e)) h
theorem made_snoc (ds : XS) (d : Bt × Bt) : madeX (ds ++ [d]) = madeX ds ++ [([], d.1, [])] := by simp [madeX]
theorem decls_snoc (ms : List XM) (m : XM) : declsX (ms ++ [m]) = declsX ms ++ (match declX m with | some p => [(p, m.2)] | none => []) := by
  unfold declsX
  rw [List.filterMap_append]
  congr 1
  cases h : declX m with
  | none => simp [h]
  | some p => simp [h]
theorem others_snoc (ms : List XM) (m : XM) : othersX (ms ++ [m]) = othersX ms ++ (if (declX m).isNone then [m] else []) := by
  unfold othersX
  rw [List.filter_append]
  congr 1
  cases h : declX m with
  | none => simp [h]
  | some p => simp [h]
theorem decls_small {ms : List XM} (h : SmallM ms) : SmallA (madeX (declsX ms)) := by
  intro a ha
  obtain ⟨d, hd, rfl⟩ := List.mem_map.1 ha
  unfold declsX at hd
  obtain ⟨m, hm, he⟩ := List.mem_filterMap.1 hd
  have := h m hm
  unfold declX at he
  repeat' split at he
  all_goals simp at he
  all_goals subst he
  · exact ⟨by simp, this.2⟩
  · exact ⟨by simp, by simp⟩
theorem decls_len (ms : List XM) : (declsX ms).length ≤ ms.length := List.length_filterMap_le _ _
theorem others_len (ms : List XM) : (othersX ms).length ≤ ms.length := List.length_filter_le _ _
theorem own_apart {w : World} {B B' k k' n n' : Nat} {e e' : TypeId} {v v' : Value} {xs xs' : List Value} (h : w.ownsRow B e k v n xs) (h' : w.ownsRow B' e' k' v' n' xs') (hne : e ≠ e') {b : Nat} (hb : v.ownBlock = some b) : v'.ownBlock ≠ some b := by
  intro hb'
  obtain ⟨c, hc⟩ := own_kind h hb
  obtain ⟨c', hc'⟩ := own_kind h' hb'
  have := hc.symm.trans hc'
  simp at this
  exact hne this.2
theorem own_sc {w : World} {B k n S cap : Nat} {e : TypeId} {v : Value} {xs : List Value} {l : XS} (h : w.ownsRow B e k v n xs) (h' : ScR S cap l w) (hne : e ≠ TBi) : v.ownBlock ≠ some S := by
  intro hb
  obtain ⟨c, hc⟩ := own_kind h hb
  obtain ⟨cur, h1, _⟩ := h'
  have := hc.symm.trans h1
  simp at this
  exact hne this.2
/-- What stands there after some attributes. -/
structure WSt (S : Nat) (l : XS) (ms : List XM) (w : World) (S' cap' : Nat) (ov mv : Value) (wr : World) : Prop where
  sc : ScR S' cap' (l ++ declsX ms) wr
  at' : S' = S ∨ w.heap.size ≤ S'
  off : Off (fun b => b = S) w wr
  keep : KeepS S l.length w wr
  others : wr.ownsRow w.heap.size TAt 3 ov (othersX ms).length (cM (othersX ms))
  made : wr.ownsRow w.heap.size TA3 3 mv (declsX ms).length (cA (madeX (declsX ms)))
  good : (declsX ms).any badD = false
section
variable {S S' cap' : Nat} {l : XS} {ms : List XM} {w wr w' : World} {ov mv : Value}
theorem WSt.below (h : WSt S l ms w S' cap' ov mv wr) (hb : Below wr.heap.size wr w') : WSt S l ms w S' cap' ov mv w' :=
  ⟨h.sc.off (Off.of_below hb) (fun h => h), h.at', h.off.thenB hb, h.keep.trans (KeepS.off (Off.of_below hb) (fun h => h)), own_off h.others (Off.of_below hb) (fun _ _ h => h), own_off h.made (Off.of_below hb) (fun _ _ h => h), h.good⟩
/-- An attribute that declares nothing. -/
theorem WSt.other {m : XM} {ov' : Value} (h : WSt S l ms w S' cap' ov mv wr) (hm : declX m = none) (hS : S < w.heap.size) (hov : w'.ownsRow w.heap.size TAt 3 ov' ((othersX ms).length + 1) (cM (othersX ms) ++ fM m)) (ho : Off (fun b => ov.ownBlock = some b) wr w') : WSt S l (ms ++ [m]) w S' cap' ov' mv w' := by
  have e1 : declsX (ms ++ [m]) = declsX ms := by rw [decls_snoc, hm]; simp
  have e2 : othersX (ms ++ [m]) = othersX ms ++ [m] := by rw [others_snoc, hm]; rfl
  have hge : ∀ b, ov.ownBlock = some b → w.heap.size ≤ b := fun b hb => (World.ownsRow.lt h.others b hb).1
  refine ⟨by rw [e1]; exact h.sc.off ho (fun hb => own_sc h.others h.sc (by decide) hb), h.at', h.off.trans ho (fun b hb => .inr (hge b hb)), h.keep.trans (KeepS.off ho (fun hb => by have := hge S hb; omega)), ?_, ?_, by rw [e1]; exact h.good⟩
  · rw [e2, List.length_append, List.length_singleton, cM_snoc]
    exact hov
  · rw [e1]
    exact own_off h.made ho (fun b hb hb' => own_apart h.others h.made (by decide) hb' hb)
/-- One that declares a prefix. -/
theorem WSt.decl {m : XM} {p : Bt} {mv' : Value} {S2 cap2 : Nat} {w2 : World} (h : WSt S l ms w S' cap' ov mv wr) (hm : declX m = some p) (hg : badD (p, m.2) = false) (hS : S < w.heap.size)
    (hmv : w'.ownsRow w.heap.size TA3 3 mv' ((declsX ms).length + 1) (cA (madeX (declsX ms)) ++ fA ([], p, []))) (ho : Off (fun b => mv.ownBlock = some b) wr w')
    (hsc : ScR S2 cap2 (l ++ declsX ms ++ [(p, m.2)]) w2) (ho2 : Off (fun b => b = S') w' w2) (hk2 : KeepS S' (l ++ declsX ms).length w' w2) (hat : S2 = S' ∨ w'.heap.size ≤ S2) : WSt S l (ms ++ [m]) w S2 cap2 ov mv' w2 := by
  have e1 : declsX (ms ++ [m]) = declsX ms ++ [(p, m.2)] := by rw [decls_snoc, hm]
  have e2 : othersX (ms ++ [m]) = othersX ms := by rw [others_snoc, hm]; simp
  have hge : ∀ b, mv.ownBlock = some b → w.heap.size ≤ b := fun b hb => (World.ownsRow.lt h.made b hb).1
  have hw' := (h.off.trans ho (fun b hb => .inr (hge b hb))).size
  have hov : w'.ownsRow w.heap.size TAt 3 ov (othersX ms).length (cM (othersX ms)) := own_off h.others ho (fun b hb hb' => own_apart h.made h.others (by decide) hb' hb)
  have hsc' : ScR S' cap' (l ++ declsX ms) w' := h.sc.off ho (fun hb => own_sc h.made h.sc (by decide) hb)
  refine ⟨by rw [e1, ← List.append_assoc]; exact hsc, ?_, (h.off.trans ho (fun b hb => .inr (hge b hb))).trans ho2 (fun b hb => ?_), (h.keep.trans (KeepS.off ho (fun hb => by have := hge S hb; omega))).trans ?_, ?_, ?_, ?_⟩
  · rcases hat with rfl | hat
    · exact h.at'
    · exact .inr (by omega)
  · rcases h.at' with h1 | h1
    · exact .inl (by rw [hb, h1])
    · exact .inr (by omega)
  · rcases h.at' with h1 | h1
    · subst h1
      exact hk2.less (by rw [List.length_append]; omega)
    · exact KeepS.off ho2 (fun e => by omega)
  · rw [e2]
    exact own_off hov ho2 (fun b hb hb' => own_sc hov hsc' (by decide) (by rw [← hb']; exact hb))
  · rw [e1, List.length_append, List.length_singleton, made_snoc, cA_snoc]
    exact own_off hmv ho2 (fun b hb hb' => own_sc hmv hsc' (by decide) (by rw [← hb']; exact hb))
  · rw [e1, List.any_append, h.good]
    simp [hg]
end
/-- What scope.with leaves. -/
def WOut (S : Nat) (l : XS) (ms : List XM) (w : World) (e : Ending) (w' : World) : Prop :=
  Off (fun b => b = S) w w' ∧ KeepS S l.length w w' ∧
  match scopeX l ms with
  | none => ∃ v1 v2 : Value, e = .returned (.tuple #[v1, v2, .bool false]) ∧ (∃ A n c, v1 = .slice A n c) ∧ (∃ A n c, v2 = .slice A n c)
  | some l' => ∃ S' cap' A c, e = .returned (.tuple #[ScV S' l'.length cap', .slice A (othersX ms).length c, .bool true]) ∧ ScR S' cap' l' w' ∧ (S' = S ∨ w.heap.size ≤ S') ∧ RC w' (fun b => w.heap.size ≤ b) A (cM (othersX ms))
theorem scope_bad {l : XS} {ms : List XM} {m : XM} {p : Bt} {k : Nat} (hk : k < ms.length) (hm : ms[k] = m) (hd : declX m = some p) (hb : badD (p, m.2) = true) : scopeX l ms = none := by
  unfold scopeX
  rw [if_pos]
  left
  rw [List.any_eq_true]
  refine ⟨(p, m.2), ?_, hb⟩
  unfold declsX
  rw [List.mem_filterMap]
  exact ⟨m, by rw [← hm]; exact List.getElem_mem hk, by rw [hd]; rfl⟩
theorem scope_end {l : XS} {ms : List XM} (h : (declsX ms).any badD = false) : scopeX l ms = if uniqX (madeX (declsX ms)) = true then some (l ++ declsX ms) else none := by
  unfold scopeX
  rw [made_uniq]
  by_cases hn : ((declsX ms).map (·.1)).Nodup
  · rw [if_neg, decide_eq_true hn, if_pos rfl]
    rintro (h1 | h1)
    · have : (declsX ms).any badD = true := h1
      rw [h] at this
      cases this
    · exact h1 hn
  · rw [if_pos (.inr hn), decide_eq_false hn, if_neg (by decide)]
set_option maxRecDepth 100000 in
set_option maxHeartbeats 4000000 in
theorem with_any {S cap : Nat} {l : XS} {ms : List XM} {T : Nat → Prop} {A : Option Addr} {c : Nat} {w : World} (H : ScR S cap l w) (hl : l.length ≤ 200000) (hm : ms.length ≤ 200000) (hR : RC w T A (cM ms)) (hT : ∀ b, T b → b ≠ S) (hs : SmallM ms) :
    Calls Tryz.prog 102 #[ScV S l.length cap, .slice A ms.length c] w (WOut S l ms w) := by
  have hSlt := H.lt
  have HR := Lib.hid hR
  have HT := Lib.hid hT
  have HS := Lib.hid hs
  have HW0 : Hid (WSt S l (ms.take 0) w S cap (.slice none 0 0) (.slice none 0 0) w) := Lib.hid ⟨by rw [List.take_zero]; show ScR S cap (l ++ []) w; rw [List.append_nil]; exact H, .inl rfl, Off.refl _ _, KeepS.refl _ _ _, World.ownsRow_nil _ _ _ _, World.ownsRow_nil _ _ _ _, rfl⟩
  obtain ⟨n, hn⟩ : ∃ n, ms.length = n := ⟨_, rfl⟩
  have HN := Lib.hid hn
  rw [hn] at hm ⊢
  clear H hR hT hs hn
  go_enter Tryz.func102, Tryz.ntmps102
  go_wp2
  go_loopw [0, 5, 7, 14] (fun sv ov mv i wr => ∃ (k S' cap' L : Nat) (ov0 mv0 : Value), k ≤ n ∧ i = .int .i64 k ∧ sv = ScV S' L cap' ∧ Hid (L = (l ++ declsX (ms.take k)).length) ∧ ov0 = ov ∧ mv0 = mv ∧ Hid (WSt S l (ms.take k) w S' cap' ov0 mv0 wr)) (fun _ _ _ i _ => n - (RowKit.intOf i).toNat)
  case atStart => exact ⟨0, S, cap, l.length, _, _, Nat.zero_le _, rfl, rfl, Lib.hid (by rw [List.take_zero]; show _ = (l ++ []).length; rw [List.append_nil]), rfl, rfl, HW0⟩
  case round =>
    clear HW0
    obtain ⟨k, S', cap', L, ov, mv, hk, rfl, rfl, HLE, rfl, rfl, HW⟩ := hrel
    by_cases hlt : k < n
    · have hkl : k < ms.length := by rw [HN.out]; exact hlt
      obtain ⟨bb, off, hAe, hTb, hbl, hcl⟩ := HR.out (by rw [cM_len]; omega)
      obtain ⟨c0, c1, c2⟩ := RC.m3 hcl k hkl
      have HTK := Lib.hid (List.take_succ_eq_append_getElem hkl)
      obtain ⟨m, hmk⟩ : ∃ m, ms[k] = m := ⟨_, rfl⟩
      have HMK : Hid (ms[k]'hkl = m) := Lib.hid hmk
      have HSM := Lib.hid (HS.out m (by rw [← hmk]; exact List.getElem_mem hkl))
      rw [hmk] at c0 c1 c2 HTK
      have hne := HT.out bb hTb
      have y0 := HW.out.off.cell c0 hne
      have y1 := HW.out.off.cell c1 hne
      have y2 := HW.out.off.cell c2 hne
      have hdl := decls_len (ms.take k)
      have hol := others_len (ms.take k)
      rw [List.length_take, HN.out] at hdl hol
      have HLL : Hid ((l ++ declsX (ms.take k)).length ≤ 400000) := Lib.hid (by rw [List.length_append]; omega)
      subst hAe
      clear c0 c1 c2 hcl hmk hne
      have hwr := HW.out.off.size
      have HW1 := Lib.hid (HW.out.below (below_alloc8 wr (.cells #[sV m.1.1, sV m.1.2, sV m.2] TAt (0, 0))))
      have HBl : Hid (Blk wr.heap.size (.cells #[sV m.1.1, sV m.1.2, sV m.2] TAt (0, 0)) (wr.alloc (.cells #[sV m.1.1, sV m.1.2, sV m.2] TAt))) := Lib.hid (Blk.new _ wr)
      have HD := Lib.hid (fun W => declares_any m W)
      unfold DcO at HD
      clear HW
      cases hd : declX m with
      | none =>
        rw [hd] at HD
        have HDN := Lib.hid hd
        clear hd
        go_wp2_with fail
        refine (HD.out _).mono ?_
        rintro e w1 ⟨rfl, b1⟩
        have HB1 := Lib.hid (HBl.out.grown (grown_below b1 none) (by simp))
        have HW2 := Lib.hid (HW1.out.below b1)
        have z0 := HB1.out.cell 0
        have z1 := HB1.out.cell 1
        have z2 := HB1.out.cell 2
        have hw1 : w.heap.size ≤ w1.heap.size := HW2.out.off.size
        clear b1 HW1 HBl
        obtain ⟨nO, hnO⟩ : ∃ x, (othersX (ms.take k)).length = x := ⟨_, rfl⟩
        have HOW : Hid (w1.ownsRow w.heap.size TAt 3 ov nO (cM (othersX (ms.take k)))) := Lib.hid (by rw [← hnO]; exact HW2.out.others)
        have hnO2 : nO ≤ 1000000 := by rw [← hnO]; omega
        have HNO := Lib.hid hnO
        clear hnO
        go_wp2_with (at_builtin; refine appR rfl _ _ 111 TAt 3 48 _ Tryz.underlying111 Tryz.info8M rfl (by decide) (by decide) rfl w1 w.heap.size ov nO (cM (othersX (ms.take k))) [sV m.1.1, sV m.1.2, sV m.2] rfl (str3_one _ _ _) rfl HOW.out rfl hnO2 hw1 ?_)
        intro v' w2 hown hoff _
        have HNW := Lib.hid (WSt.other HW2.out HDN.out hSlt (by rw [HNO.out]; exact hown) hoff)
        rw [← HTK.out] at HNW
        have HDE : Hid ((l ++ declsX (ms.take k)).length = (l ++ declsX (ms.take (k + 1))).length) := Lib.hid (by rw [HTK.out, decls_snoc, HDN.out]; simp)
        clear hown hoff HOW
        go_wp2
        go_roundw
        case rel => exact ⟨k + 1, S', cap', L, _, _, by omega, by go_num, rfl, Lib.hid (by rw [HLE.out, HDE.out]), rfl, rfl, HNW⟩
        case measure => simp [RowKit.intOf]; omega
      | some p =>
        rw [hd] at HD
        have HDS := Lib.hid hd
        clear hd
        have HD2 : Hid (∀ W, Calls Tryz.prog 121 #[.agg #[.string (bs m.1.1), .string (bs m.1.2)]] W (fun e w' => e = .returned (.tuple #[.string (bs p), .bool true]) ∧ Below W.heap.size W w')) := HD
        clear HD
        cases hbad : badD (p, m.2) with
        | true =>
          have HE : Hid (scopeX l ms = none) := Lib.hid (scope_bad hkl HMK.out HDS.out hbad)
          have hpn : ¬ (bs p).toList = [] ∧ (bs p).toList.isEmpty = false ∧ (bs m.2).toList = [] := by
            unfold badD at hbad
            simp only [Bool.and_eq_true, Bool.not_eq_true', beq_eq_false_iff_ne, beq_iff_eq] at hbad
            rw [bs_toList, bs_toList]
            refine ⟨hbad.1, ?_, hbad.2⟩
            cases p with
            | nil => exact absurd rfl hbad.1
            | cons _ _ => rfl
          obtain ⟨hp1, hp2, hp3⟩ := hpn
          clear hbad
          go_wp2_with fail
          refine (HD2.out _).mono ?_
          rintro e w1 ⟨rfl, b1⟩
          have HB1 := Lib.hid (HBl.out.grown (grown_below b1 none) (by simp))
          have HW2 := Lib.hid (HW1.out.below b1)
          have z0 := HB1.out.cell 0
          have z1 := HB1.out.cell 1
          have z2 := HB1.out.cell 2
          have hw1 : w.heap.size ≤ w1.heap.size := HW2.out.off.size
          clear b1 HW1 HBl
          go_wp2
          go_ret3
          refine ⟨HW2.out.off, HW2.out.keep, ?_⟩
          rw [HE.out]
          exact ⟨_, _, rfl, ⟨none, 0, 0, rfl⟩, ⟨none, 0, 0, rfl⟩⟩
        | false =>
          have HGD := Lib.hid hbad
          by_cases hp0 : p = []
          · have hp1 : (bs p).toList = [] := by rw [bs_toList]; exact hp0
            clear hbad hp0
            go_wp2_with fail
            refine (HD2.out _).mono ?_
            rintro e w1 ⟨rfl, b1⟩
            have HB1 := Lib.hid (HBl.out.grown (grown_below b1 none) (by simp))
            have HW2 := Lib.hid (HW1.out.below b1)
            have z0 := HB1.out.cell 0
            have z1 := HB1.out.cell 1
            have z2 := HB1.out.cell 2
            have hw1 : w.heap.size ≤ w1.heap.size := HW2.out.off.size
            clear b1 HW1 HBl
            obtain ⟨nM, hnM⟩ : ∃ x, (declsX (ms.take k)).length = x := ⟨_, rfl⟩
            have HMW : Hid (w1.ownsRow w.heap.size TA3 3 mv nM (cA (madeX (declsX (ms.take k))))) := Lib.hid (by rw [← hnM]; exact HW2.out.made)
            have hnM2 : nM ≤ 1000000 := by rw [← hnM]; omega
            have HNM := Lib.hid hnM
            clear hnM
            go_wp2_with (at_builtin; refine appR rfl _ _ 24 TA3 3 48 _ Tryz.underlying24 Tryz.info8A rfl (by decide) (by decide) rfl w1 w.heap.size mv nM (cA (madeX (declsX (ms.take k)))) [.string ⟨#[]⟩, sV p, .string ⟨#[]⟩] rfl (str3_one _ _ _) rfl HMW.out rfl hnM2 hw1 ?_)
            intro v' w2 hown hoff _
            have HOF := Lib.hid hoff
            have HMV2 : Hid (w2.ownsRow w.heap.size TA3 3 v' ((declsX (ms.take k)).length + 1) (cA (madeX (declsX (ms.take k))) ++ fA ([], p, []))) := Lib.hid (by rw [HNM.out]; exact hown)
            have hsc2 : ScR S' cap' (l ++ declsX (ms.take k)) w2 := HW2.out.sc.off hoff (fun hb => own_sc HW2.out.made HW2.out.sc (by decide) hb)
            have hq : Blk wr.heap.size (.cells #[sV m.1.1, sV m.1.2, sV m.2] TAt (0, 0)) w2 := HOF.out.blk HB1.out (fun hb => by
              obtain ⟨cur, hcur⟩ := own_kind HW2.out.made hb
              have := hcur.symm.trans HB1.out
              injection this with h1
              injection h1 with _ h2
              exact absurd h2 (by decide))
            have q1 := hq.cell 2
            have HSC2 := Lib.hid hsc2
            clear hown hoff HMW hq hsc2
            go_wp2_with (at_builtin; refine appSc rfl _ _ rfl w2 HSC2.out (p, m.2) (by have := HLL.out; omega) HLE.out.symm rfl rfl ?_)
            intro S2 cap2 w3 hs3 ho3 hk3 hat3
            have HNW := Lib.hid (WSt.decl HW2.out HDS.out HGD.out hSlt HMV2.out HOF.out (by rw [List.append_assoc]; exact hs3) ho3 (by rw [List.length_append]; exact hk3) hat3)
            rw [← HTK.out] at HNW
            have HDE : Hid ((l ++ declsX (ms.take k)).length + 1 = (l ++ declsX (ms.take (k + 1))).length) := Lib.hid (by rw [HTK.out, decls_snoc, HDS.out]; simp; omega)
            clear hs3 ho3 hk3 hat3
            go_wp2
            go_roundw
            case rel => exact ⟨k + 1, S2, cap2, _, _, _, by omega, by go_num, rfl, Lib.hid (by rw [HLE.out]; exact HDE.out), rfl, rfl, HNW⟩
            case measure => simp [RowKit.intOf]; omega
          · have hv : ¬ m.2 = [] := fun e => by
              unfold badD at hbad
              simp only [e] at hbad
              simp [hp0] at hbad
            have hp1 : ¬ (bs p).toList = [] := by rw [bs_toList]; exact hp0
            have hp2 : (bs p).toList.isEmpty = false := by rw [bs_toList]; cases p with
              | nil => exact absurd rfl hp0
              | cons _ _ => rfl
            have hv1 : ¬ (bs m.2).toList = [] := by rw [bs_toList]; exact hv
            have hv2 : (bs m.2).toList.isEmpty = false := by
              rw [bs_toList]
              cases h : m.2 with
              | nil => exact absurd h hv
              | cons _ _ => rfl
            clear hbad hp0 hv
            go_wp2_with fail
            refine (HD2.out _).mono ?_
            rintro e w1 ⟨rfl, b1⟩
            have HB1 := Lib.hid (HBl.out.grown (grown_below b1 none) (by simp))
            have HW2 := Lib.hid (HW1.out.below b1)
            have z0 := HB1.out.cell 0
            have z1 := HB1.out.cell 1
            have z2 := HB1.out.cell 2
            have hw1 : w.heap.size ≤ w1.heap.size := HW2.out.off.size
            clear b1 HW1 HBl
            obtain ⟨nM, hnM⟩ : ∃ x, (declsX (ms.take k)).length = x := ⟨_, rfl⟩
            have HMW : Hid (w1.ownsRow w.heap.size TA3 3 mv nM (cA (madeX (declsX (ms.take k))))) := Lib.hid (by rw [← hnM]; exact HW2.out.made)
            have hnM2 : nM ≤ 1000000 := by rw [← hnM]; omega
            have HNM := Lib.hid hnM
            clear hnM
            go_wp2_with (at_builtin; refine appR rfl _ _ 24 TA3 3 48 _ Tryz.underlying24 Tryz.info8A rfl (by decide) (by decide) rfl w1 w.heap.size mv nM (cA (madeX (declsX (ms.take k)))) [.string ⟨#[]⟩, sV p, .string ⟨#[]⟩] rfl (str3_one _ _ _) rfl HMW.out rfl hnM2 hw1 ?_)
            intro v' w2 hown hoff _
            have HOF := Lib.hid hoff
            have HMV2 : Hid (w2.ownsRow w.heap.size TA3 3 v' ((declsX (ms.take k)).length + 1) (cA (madeX (declsX (ms.take k))) ++ fA ([], p, []))) := Lib.hid (by rw [HNM.out]; exact hown)
            have hsc2 : ScR S' cap' (l ++ declsX (ms.take k)) w2 := HW2.out.sc.off hoff (fun hb => own_sc HW2.out.made HW2.out.sc (by decide) hb)
            have hq : Blk wr.heap.size (.cells #[sV m.1.1, sV m.1.2, sV m.2] TAt (0, 0)) w2 := HOF.out.blk HB1.out (fun hb => by
              obtain ⟨cur, hcur⟩ := own_kind HW2.out.made hb
              have := hcur.symm.trans HB1.out
              injection this with h1
              injection h1 with _ h2
              exact absurd h2 (by decide))
            have q1 := hq.cell 2
            have HSC2 := Lib.hid hsc2
            clear hown hoff HMW hq hsc2
            go_wp2_with (at_builtin; refine appSc rfl _ _ rfl w2 HSC2.out (p, m.2) (by have := HLL.out; omega) HLE.out.symm rfl rfl ?_)
            intro S2 cap2 w3 hs3 ho3 hk3 hat3
            have HNW := Lib.hid (WSt.decl HW2.out HDS.out HGD.out hSlt HMV2.out HOF.out (by rw [List.append_assoc]; exact hs3) ho3 (by rw [List.length_append]; exact hk3) hat3)
            rw [← HTK.out] at HNW
            have HDE : Hid ((l ++ declsX (ms.take k)).length + 1 = (l ++ declsX (ms.take (k + 1))).length) := Lib.hid (by rw [HTK.out, decls_snoc, HDS.out]; simp; omega)
            clear hs3 ho3 hk3 hat3
            go_wp2
            go_roundw
            case rel => exact ⟨k + 1, S2, cap2, _, _, _, by omega, by go_num, rfl, Lib.hid (by rw [HLE.out]; exact HDE.out), rfl, rfl, HNW⟩
            case measure => simp [RowKit.intOf]; omega
    · obtain rfl : k = n := by omega
      have htk : ms.take k = ms := List.take_of_length_le (by rw [HN.out]; exact Nat.le_refl _)
      rw [htk] at HW HLE
      have HE := Lib.hid (scope_end (l := l) HW.out.good)
      obtain ⟨mA, mc, rfl, hmc, hmR⟩ := RC.of_own HW.out.made (fun b => w.heap.size ≤ b) (fun b hb => (World.ownsRow.lt HW.out.made b hb).1)
      have HU : Hid (∀ W, Below wr.heap.size wr W → Calls Tryz.prog 91 #[.slice mA (declsX ms).length mc] W (fun e w' => e = .returned (.bool (uniqX (madeX (declsX ms)))) ∧ Below W.heap.size W w')) := Lib.hid (fun W hW => by
        have := unique_any (c := mc) (hmR.below hW) (decls_small HS.out) (by unfold madeX; rw [List.length_map]; have := decls_len ms; have := HN.out; omega)
        unfold madeX at this
        rw [List.length_map] at this
        exact this)
      obtain ⟨oA, oc, rfl, hoc, hoR⟩ := RC.of_own HW.out.others (fun b => w.heap.size ≤ b) (fun b hb => (World.ownsRow.lt HW.out.others b hb).1)
      have HOR := Lib.hid hoR
      clear htk hmR hoR
      generalize uniqX (madeX (declsX ms)) = u at *
      go_wp2_with fail
      refine (HU.out _ (Below.refl _ _)).mono ?_
      rintro e w1 ⟨rfl, b1⟩
      have HW2 := Lib.hid (HW.out.below b1)
      have HOR2 := Lib.hid (HOR.out.below b1)
      clear b1
      go_wp2
      go_ret3
      refine ⟨HW2.out.off, HW2.out.keep, ?_⟩
      cases u with
      | true =>
        rw [HE.out, if_pos rfl]
        exact ⟨S', cap', oA, oc, by rw [HLE.out]; rfl, HW2.out.sc, HW2.out.at', HOR2.out⟩
      | false =>
        rw [HE.out, if_neg (by decide)]
        exact ⟨_, _, rfl, ⟨_, _, _, rfl⟩, ⟨_, _, _, rfl⟩⟩
end Go.Proofs.YtklcjimmbkpbdaaGreatDoor
