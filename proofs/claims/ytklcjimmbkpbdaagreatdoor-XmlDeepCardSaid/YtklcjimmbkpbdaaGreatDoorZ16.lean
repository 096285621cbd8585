/-
  Of the proofs of layer 8 (elements of XML): the parts XL XM XN XO XPr. No conditions.
-/
import Derived.Test.YtklcjimmbkpbdaaGreatDoorZ15
import Derived.Deep.RegionHeld3
namespace Go.Proofs.YtklcjimmbkpbdaaGreatDoor
open Go.RowKit
open Go.Lib
theorem eqS8 (a b : Bt) : ((bs a).toList == (bs b).toList) = (a == b) := by rw [bs_toList, bs_toList]
theorem find_take {l : XS} {k : Nat} (h : k < l.length) (p : Bt) : findX (l.take (k + 1)) p = if l[k].1 = p then some l[k].2 else findX (l.take k) p := by
 rw [List.take_succ_eq_append_getElem h]
 obtain ⟨q, v⟩ := l[k]
 exact find_snoc p q v _
def SpO (o : Option Bt) (w : World) (e : Ending) (w' : World) : Prop := e = .returned (.tuple #[.string (bs (o.getD [])), .bool o.isSome]) ∧ w = w'
theorem SpO.yes {o : Option Bt} {v : Bt} {w : World} (h : o = some v) : SpO o w (.returned (.tuple #[.string (bs v), .bool true])) w := by subst h; exact ⟨rfl, rfl⟩
theorem SpO.no {o : Option Bt} {w : World} (h : o = none) : SpO o w (.returned (.tuple #[.string ⟨#[]⟩, .bool false])) w := by subst h; exact ⟨rfl, rfl⟩
set_option maxRecDepth 100000 in
set_option maxHeartbeats 1000000 in
theorem space_any {S cap : Nat} {l : XS} {w : World} (H : ScR S cap l w) (hl : l.length ≤ 1000000) (p : Bt) :
    Calls Tryz.prog 103 #[ScV S l.length cap, .string (bs p)] w (SpO (findX l p) w) := by
 have HC := hid H.cells
 obtain ⟨n, hn⟩ : ∃ n, l.length = n := ⟨_, rfl⟩
 have HN := hid hn
 obtain ⟨o, ho⟩ : ∃ o, findX l p = o := ⟨_, rfl⟩
 have HO := hid ho
 have H0 : Hid (findX (l.take n) p = o) := hid (by rw [← hn, List.take_length]; exact ho)
 obtain ⟨P, hP⟩ : ∃ P, bs p = P := ⟨_, rfl⟩
 have HP := hid hP
 rw [ho, hn, hP]
 rw [hn] at hl
 clear H hn ho hP
 go_enter Tryz.func103, Tryz.ntmps103
 go_wp2
 go_loop [6] (fun i => (i = .int .i64 (-1) ∧ Hid (o = none)) ∨ (∃ k : Nat, k < n ∧ i = .int .i64 k ∧ Hid (findX (l.take (k + 1)) p = o))) (fun i => (RowKit.intOf i + 1).toNat)
 case atStart =>
  by_cases h0 : n = 0
  ·subst h0
   exact .inl ⟨rfl, hid (by rw [← H0.out]; rfl)⟩
  ·refine .inr ⟨n - 1, by omega, ?_, hid (by rw [show n - 1 + 1 = n by omega]; exact H0.out)⟩
   congr 1
   omega
 case round =>
  rcases hrel with ⟨rfl, HNo⟩ | ⟨k, hk, rfl, HF⟩
  ·go_wp2
   go_ret2
   exact SpO.no HNo.out
  ·have hkl : k < l.length := by rw [HN.out]; exact hk
   obtain ⟨c0, c1⟩ := RC.s2 HC.out k hkl
   have HT := hid (find_take hkl p)
   obtain ⟨d, hd⟩ : ∃ d, l[k] = d := ⟨_, rfl⟩
   rw [hd] at c0 c1 HT
   simp only [Nat.zero_add] at c0 c1
   have heq := eqS8 d.1 p
   rw [HP.out] at heq
   clear hd
   by_cases hq : d.1 = p
   ·have hb : (d.1 == p) = true := by rw [beq_iff_eq]; exact hq
    rw [hb] at heq
    have HY : Hid (o = some d.2) := hid (by rw [← HF.out, HT.out, if_pos hq])
    clear hq hb HT HF
    go_wp2
    go_ret2
    exact SpO.yes HY.out
   ·have hb : (d.1 == p) = false := beq_eq_false_iff_ne.2 hq
    rw [hb] at heq
    have HF2 : Hid (findX (l.take k) p = o) := hid (by rw [← HF.out, HT.out, if_neg hq])
    clear hq hb HT HF
    go_wp2
    go_round
    case rel =>
     by_cases h0 : k = 0
     ·subst h0
      exact .inl ⟨rfl, hid (by rw [← HF2.out]; rfl)⟩
     ·refine .inr ⟨k - 1, by omega, ?_, hid (by rw [show k - 1 + 1 = k by omega]; exact HF2.out)⟩
      congr 1
      omega
    case measure => simp [RowKit.intOf]
def DcO (o : Option Bt) (w : World) (e : Ending) (w' : World) : Prop := e = .returned (.tuple #[.string (bs (o.getD [])), .bool o.isSome]) ∧ Below w.heap.size w w'
theorem DcO.yes {o : Option Bt} {v : Bt} {w w' : World} (h : o = some v) (hb : Below w.heap.size w w') : DcO o w (.returned (.tuple #[.string (bs v), .bool true])) w' := by subst h; exact ⟨rfl, hb⟩
theorem DcO.no {o : Option Bt} {w w' : World} (h : o = none) (hb : Below w.heap.size w w') : DcO o w (.returned (.tuple #[.string ⟨#[]⟩, .bool false])) w' := by subst h; exact ⟨rfl, hb⟩
set_option maxRecDepth 100000 in
theorem declares_any (m : XM) (w : World) : Calls Tryz.prog 121 #[QV m.1] w (DcO (declX m) w) := by
 obtain ⟨⟨p, n⟩, v⟩ := m
 have HD : Hid (declX ((p, n), v) = if p = xmlnsW then some n else if p = [] ∧ n = xmlnsW then some [] else none) := hid rfl
 obtain ⟨o, ho⟩ : ∃ o, declX ((p, n), v) = o := ⟨_, rfl⟩
 rw [ho] at HD ⊢
 have HB := hid (below_alloc8 w (.cells #[.string (bs p), .string (bs n)] TQu))
 clear ho
 show Calls Tryz.prog 121 #[.agg #[.string (bs p), .string (bs n)]] w (DcO o w)
 by_cases h1 : p = xmlnsW
 ·have HY : Hid (o = some n) := hid (by rw [HD.out, if_pos h1])
  have hq : ((bs p).toList == [120, 109, 108, 110, 115]) = true := by rw [bs_toList, h1]; rfl
  have hq2 : (bs p).toList = [120, 109, 108, 110, 115] := by rw [bs_toList, h1]; rfl
  clear h1 HD
  go_enter Tryz.func121, Tryz.ntmps121
  go_wp2
  go_ret2
  exact DcO.yes HY.out HB.out
 ·have hq : ((bs p).toList == [120, 109, 108, 110, 115]) = false := by rw [bs_toList]; exact beq_eq_false_iff_ne.2 h1
  have hq2 : ¬ (bs p).toList = [120, 109, 108, 110, 115] := by rw [bs_toList]; exact h1
  by_cases h2 : p = []
  ·subst h2
   have he : (bs ([] : Bt)).toList = [] := bs_toList []
   by_cases h3 : n = xmlnsW
   ·have HY : Hid (o = some []) := hid (by rw [HD.out, if_neg h1, if_pos ⟨rfl, h3⟩])
    have hr : ((bs n).toList == [120, 109, 108, 110, 115]) = true := by rw [bs_toList, h3]; rfl
    have hr2 : (bs n).toList = [120, 109, 108, 110, 115] := by rw [bs_toList, h3]; rfl
    clear h1 HD h3
    go_enter Tryz.func121, Tryz.ntmps121
    go_wp2
    go_ret2
    exact DcO.yes (v := []) HY.out HB.out
   ·have HY : Hid (o = none) := hid (by rw [HD.out, if_neg h1, if_neg (fun h => h3 h.2)])
    have hr : ((bs n).toList == [120, 109, 108, 110, 115]) = false := by rw [bs_toList]; exact beq_eq_false_iff_ne.2 h3
    have hr2 : ¬ (bs n).toList = [120, 109, 108, 110, 115] := by rw [bs_toList]; exact h3
    clear h1 HD h3
    go_enter Tryz.func121, Tryz.ntmps121
    go_wp2
    go_ret2
    exact DcO.no HY.out HB.out
  ·have HY : Hid (o = none) := hid (by rw [HD.out, if_neg h1, if_neg (fun h => h2 h.1)])
   have he : ¬ (bs p).toList = [] := by rw [bs_toList]; exact h2
   have he2 : (bs p).toList.isEmpty = false := by rw [bs_toList]; cases p with
    | nil => exact absurd rfl h2
    | cons _ _ => rfl
   clear h1 HD h2
   go_enter Tryz.func121, Tryz.ntmps121
   go_wp2
   go_ret2
   exact DcO.no HY.out HB.out
def AtO (o : Option XA) (w : World) (e : Ending) (w' : World) : Prop := (∃ x y z : Bt, e = .returned (.tuple #[.agg #[.string (bs x), .string (bs y), .string (bs z)], .bool o.isSome]) ∧ ∀ a, o = some a → x = a.1 ∧ y = a.2.1 ∧ z = a.2.2) ∧ Below w.heap.size w w'
theorem AtO.yes {o : Option XA} {a : XA} {w w' : World} (h : o = some a) (hb : Below w.heap.size w w') : AtO o w (.returned (.tuple #[.agg #[.string (bs a.1), .string (bs a.2.1), .string (bs a.2.2)], .bool true])) w' := by
 subst h
 exact ⟨⟨_, _, _, rfl, fun _ h => (by cases h; exact ⟨rfl, rfl, rfl⟩)⟩, hb⟩
theorem AtO.no {o : Option XA} {x y z : Bt} {w w' : World} (h : o = none) (hb : Below w.heap.size w w') : AtO o w (.returned (.tuple #[.agg #[.string (bs x), .string (bs y), .string (bs z)], .bool false])) w' := by
 subst h
 exact ⟨⟨x, y, z, rfl, fun _ h => (by cases h)⟩, hb⟩
theorem below_a3 (w : World) (o1 o2 o3 : Obj) : Below w.heap.size w (((w.alloc o1).alloc o2).alloc o3) := (((Below.refl _ w).alloc (Nat.le_refl _) o1).alloc (by simp) o2).alloc (by simp; omega) o3
set_option maxRecDepth 100000 in
theorem scattr_any {S cap : Nat} {l : XS} {w : World} (H : ScR S cap l w) (hl : l.length ≤ 1000000) (m : XM) :
    Calls Tryz.prog 104 #[ScV S l.length cap, .agg #[sV m.1.1, sV m.1.2, sV m.2]] w (AtO (attrX l m) w) := by
 obtain ⟨⟨p, n⟩, v⟩ := m
 have HD : Hid (attrX l ((p, n), v) = if p = [] then some ([], n, v) else (findX l p).map fun sp => (sp, n, v)) := hid rfl
 obtain ⟨o, ho⟩ : ∃ o, attrX l ((p, n), v) = o := ⟨_, rfl⟩
 rw [ho] at HD ⊢
 show Calls Tryz.prog 104 #[ScV S l.length cap, .agg #[.string (bs p), .string (bs n), .string (bs v)]] w (AtO o w)
 clear ho
 have HSp := hid (fun W (hW : ScR S cap l W) => space_any hW hl p)
 have HSc := hid (H.off (Off.of_below (below_a3 w (.cells #[.string (bs p), .string (bs n), .string (bs v)] TAt (0, 0)) (.cells #[.string ⟨#[]⟩, .string ⟨#[]⟩, .string ⟨#[]⟩] TA3 (0, 0)) (.cells #[.string ⟨#[]⟩, .string (bs n), .string (bs v)] TA3 (0, 0)))) (fun h => h))
 clear H
 by_cases h0 : p = []
 ·subst h0
  have HY : Hid (o = some ([], n, v)) := hid (by rw [HD.out, if_pos rfl])
  have he : (bs ([] : Bt)).toList = [] := bs_toList []
  clear HD
  go_enter Tryz.func104, Tryz.ntmps104
  go_wp2
  exact bodyPost_ret (v := .tuple #[.agg #[.string ⟨#[]⟩, .string (bs n), .string (bs v)], .bool true]) (by simp [results, Tryz.results104, go_sem]) rfl (AtO.yes (a := ([], n, v)) HY.out (below_a3 _ _ _ _))
 ·have he : ¬ (bs p).toList = [] := by rw [bs_toList]; exact h0
  have he2 : (bs p).toList.isEmpty = false := by rw [bs_toList]; cases p with
   | nil => exact absurd rfl h0
   | cons _ _ => rfl
  cases hf : findX l p with
  | none =>
   have HY : Hid (o = none) := hid (by rw [HD.out, if_neg h0, hf]; rfl)
   rw [hf] at HSp
   clear HD h0 hf
   go_enter Tryz.func104, Tryz.ntmps104
   go_wp2_with fail
   refine (HSp.out _ HSc.out).mono ?_
   rintro e w1 ⟨rfl, rfl⟩
   go_wp2
   exact bodyPost_ret (v := .tuple #[.agg #[.string ⟨#[]⟩, .string (bs n), .string (bs v)], .bool false]) (by simp [results, Tryz.results104, go_sem]; first | done | rfl) rfl (AtO.no (x := []) (y := n) (z := v) HY.out (below_a3 _ _ _ _))
  | some sp =>
   have HY : Hid (o = some (sp, n, v)) := hid (by rw [HD.out, if_neg h0, hf]; rfl)
   rw [hf] at HSp
   clear HD h0 hf
   go_enter Tryz.func104, Tryz.ntmps104
   go_wp2_with fail
   refine (HSp.out _ HSc.out).mono ?_
   rintro e w1 ⟨rfl, rfl⟩
   go_wp2
   exact bodyPost_ret (v := .tuple #[.agg #[.string (bs sp), .string (bs n), .string (bs v)], .bool true]) (by simp [results, Tryz.results104, go_sem]; first | done | rfl) rfl (AtO.yes (a := (sp, n, v)) HY.out (below_a3 _ _ _ _))
theorem appSc {ops : Array Oper} {rest : List Oper} {o : Oper} {a : Act} {Q : Exit → Act → World → Prop} (hgd : o.guard = none) (s x : Operand)
    (ho : o.op = .call { callee := .builtin .append, args := #[s, x], argTypes := #[55, 55] }) (w : World) {S cap n : Nat} {l : XS} (H : ScR S cap l w) (d : Bt × Bt) (hl : l.length ≤ 1000000) (hn : l.length = n)
    (hs : a.eval s = ScV S n cap) (hx : a.eval x = .slice (some ⟨w.heap.size, 0, none⟩) 1 1)
    (h : ∀ S' cap' w', ScR S' cap' (l ++ [d]) w' → Off (fun b => b = S) w w' → KeepS S l.length w w' → (S' = S ∨ w.heap.size ≤ S') → wpList Tryz.prog ops Q rest (a.put o.dst (ScV S' (n + 1) cap')) w') :
    wpList Tryz.prog ops Q (o :: rest) a (w.alloc (.cells #[sV d.1, sV d.2] TBi)) := by
 subst hn
 refine wpList_plain hgd fun K hK => ?_
 obtain ⟨S', cap', w', hr, h2, h3, h4, h5⟩ := sc_app H d hl o.type
 unfold Oper.wp execOp
 simp only [ho, resolve, invoke, builtin, Sem.run_bind, Sem.run_pure, Result.andThen_ok, List.map_toArray, List.map_cons, List.map_nil, hs, hx, hr]
 exact hK _ _ (h S' cap' w' h2 h3 h4 h5)
theorem str3_one (a b c : ByteArray) : ∀ u ∈ [Value.string a, .string b, .string c], u.oneCell' = true := by
 intro u hu
 rcases List.mem_cons.1 hu with rfl | hu
 ·rfl
 rcases List.mem_cons.1 hu with rfl | hu
 ·rfl
 rcases List.mem_cons.1 hu with rfl | hu
 ·rfl
 ·cases hu
def SmallM (ms : List XM) : Prop := ∀ m ∈ ms, m.1.1.length ≤ 100000 ∧ m.1.2.length ≤ 100000
def badD (d : Bt × Bt) : Bool := !(d.1 == []) && d.2 == []
def madeX (ds : XS) : List XA := ds.map fun d => ([], d.1, [])
theorem made_uniq (ds : XS) : uniqX (madeX ds) = decide (ds.map (·.1)).Nodup := by
 unfold uniqX madeX
 rw [List.map_map]
 congr 1
 apply propext
 have : ((fun a : XA => (a.1, a.2.1)) ∘ fun d : Bt × Bt => (([], d.1, []) : XA)) = fun d => (([] : Bt), d.1) := rfl
 rw [this, show (fun d : Bt × Bt => (([] : Bt), d.1)) = (fun x => (([] : Bt), x)) ∘ (fun d : Bt × Bt => d.1) from rfl, ← List.map_map]
 constructor
 ·intro h
  exact List.Pairwise.of_map (fun x => (([] : Bt), x)) (fun a b hne e => hne (by rw [e])) h
 ·intro h
  exact List.Pairwise.map (fun x => (([] : Bt), x)) (fun a b hne e => hne (by injection e)) h
theorem made_snoc (ds : XS) (d : Bt × Bt) : madeX (ds ++ [d]) = madeX ds ++ [([], d.1, [])] := by simp [madeX]
theorem decls_snoc (ms : List XM) (m : XM) : declsX (ms ++ [m]) = declsX ms ++ (match declX m with | some p => [(p, m.2)] | none => []) := by
 unfold declsX
 rw [List.filterMap_append]
 congr 1
 cases h : declX m with
 | none => simp [h]
 | some p => simp [h]
theorem others_snoc (ms : List XM) (m : XM) : othersX (ms ++ [m]) = othersX ms ++ (if (declX m).isNone then [m] else []) := by
 unfold othersX
 rw [List.filter_append]
 congr 1
 cases h : declX m with
 | none => simp [h]
 | some p => simp [h]
theorem decls_small {ms : List XM} (h : SmallM ms) : SmallA (madeX (declsX ms)) := by
 intro a ha
 obtain ⟨d, hd, rfl⟩ := List.mem_map.1 ha
 unfold declsX at hd
 obtain ⟨m, hm, he⟩ := List.mem_filterMap.1 hd
 have := h m hm
 unfold declX at he
 repeat' split at he
 all_goals simp at he
 all_goals subst he
 ·exact ⟨by simp, this.2⟩
 ·exact ⟨by simp, by simp⟩
theorem decls_len (ms : List XM) : (declsX ms).length ≤ ms.length := List.length_filterMap_le _ _
theorem others_len (ms : List XM) : (othersX ms).length ≤ ms.length := List.length_filter_le _ _
theorem own_apart {w : World} {B B' k k' n n' : Nat} {e e' : TypeId} {v v' : Value} {xs xs' : List Value} (h : w.ownsRow B e k v n xs) (h' : w.ownsRow B' e' k' v' n' xs') (hne : e ≠ e') {b : Nat} (hb : v.ownBlock = some b) : v'.ownBlock ≠ some b := by
 intro hb'
 obtain ⟨c, hc⟩ := own_kind h hb
 obtain ⟨c', hc'⟩ := own_kind h' hb'
 have := hc.symm.trans hc'
 simp at this
 exact hne this.2
theorem own_sc {w : World} {B k n S cap : Nat} {e : TypeId} {v : Value} {xs : List Value} {l : XS} (h : w.ownsRow B e k v n xs) (h' : ScR S cap l w) (hne : e ≠ TBi) : v.ownBlock ≠ some S := by
 intro hb
 obtain ⟨c, hc⟩ := own_kind h hb
 obtain ⟨cur, h1, _⟩ := h'
 have := hc.symm.trans h1
 simp at this
 exact hne this.2
structure WSt (S : Nat) (l : XS) (ms : List XM) (w : World) (S' cap' : Nat) (ov mv : Value) (wr : World) : Prop where
 sc : ScR S' cap' (l ++ declsX ms) wr
 at' : S' = S ∨ w.heap.size ≤ S'
 off : Off (fun b => b = S) w wr
 keep : KeepS S l.length w wr
 others : wr.ownsRow w.heap.size TAt 3 ov (othersX ms).length (cM (othersX ms))
 made : wr.ownsRow w.heap.size TA3 3 mv (declsX ms).length (cA (madeX (declsX ms)))
 good : (declsX ms).any badD = false
section
variable {S S' cap' : Nat} {l : XS} {ms : List XM} {w wr w' : World} {ov mv : Value}
theorem WSt.below (h : WSt S l ms w S' cap' ov mv wr) (hb : Below wr.heap.size wr w') : WSt S l ms w S' cap' ov mv w' :=
 ⟨h.sc.off (Off.of_below hb) (fun h => h), h.at', h.off.thenB hb, h.keep.trans (KeepS.off (Off.of_below hb) (fun h => h)), own_off h.others (Off.of_below hb) (fun _ _ h => h), own_off h.made (Off.of_below hb) (fun _ _ h => h), h.good⟩
theorem WSt.other {m : XM} {ov' : Value} (h : WSt S l ms w S' cap' ov mv wr) (hm : declX m = none) (hS : S < w.heap.size) (hov : w'.ownsRow w.heap.size TAt 3 ov' ((othersX ms).length + 1) (cM (othersX ms) ++ fM m)) (ho : Off (fun b => ov.ownBlock = some b) wr w') : WSt S l (ms ++ [m]) w S' cap' ov' mv w' := by
 have e1 : declsX (ms ++ [m]) = declsX ms := by rw [decls_snoc, hm]; simp
 have e2 : othersX (ms ++ [m]) = othersX ms ++ [m] := by rw [others_snoc, hm]; rfl
 have hge : ∀ b, ov.ownBlock = some b → w.heap.size ≤ b := fun b hb => (World.ownsRow.lt h.others b hb).1
 refine ⟨by rw [e1]; exact h.sc.off ho (fun hb => own_sc h.others h.sc (by decide) hb), h.at', h.off.trans ho (fun b hb => .inr (hge b hb)), h.keep.trans (KeepS.off ho (fun hb => by have := hge S hb; omega)), ?_, ?_, by rw [e1]; exact h.good⟩
 ·rw [e2, List.length_append, List.length_singleton, cM_snoc]
  exact hov
 ·rw [e1]
  exact own_off h.made ho (fun b hb hb' => own_apart h.others h.made (by decide) hb' hb)
theorem WSt.decl {m : XM} {p : Bt} {mv' : Value} {S2 cap2 : Nat} {w2 : World} (h : WSt S l ms w S' cap' ov mv wr) (hm : declX m = some p) (hg : badD (p, m.2) = false) (hS : S < w.heap.size)
    (hmv : w'.ownsRow w.heap.size TA3 3 mv' ((declsX ms).length + 1) (cA (madeX (declsX ms)) ++ fA ([], p, []))) (ho : Off (fun b => mv.ownBlock = some b) wr w')
    (hsc : ScR S2 cap2 (l ++ declsX ms ++ [(p, m.2)]) w2) (ho2 : Off (fun b => b = S') w' w2) (hk2 : KeepS S' (l ++ declsX ms).length w' w2) (hat : S2 = S' ∨ w'.heap.size ≤ S2) : WSt S l (ms ++ [m]) w S2 cap2 ov mv' w2 := by
 have e1 : declsX (ms ++ [m]) = declsX ms ++ [(p, m.2)] := by rw [decls_snoc, hm]
 have e2 : othersX (ms ++ [m]) = othersX ms := by rw [others_snoc, hm]; simp
 have hge : ∀ b, mv.ownBlock = some b → w.heap.size ≤ b := fun b hb => (World.ownsRow.lt h.made b hb).1
 have hw' := (h.off.trans ho (fun b hb => .inr (hge b hb))).size
 have hov : w'.ownsRow w.heap.size TAt 3 ov (othersX ms).length (cM (othersX ms)) := own_off h.others ho (fun b hb hb' => own_apart h.made h.others (by decide) hb' hb)
 have hsc' : ScR S' cap' (l ++ declsX ms) w' := h.sc.off ho (fun hb => own_sc h.made h.sc (by decide) hb)
 refine ⟨by rw [e1, ← List.append_assoc]; exact hsc, ?_, (h.off.trans ho (fun b hb => .inr (hge b hb))).trans ho2 (fun b hb => ?_), (h.keep.trans (KeepS.off ho (fun hb => by have := hge S hb; omega))).trans ?_, ?_, ?_, ?_⟩
 ·rcases hat with rfl | hat
  ·exact h.at'
  ·exact .inr (by omega)
 ·rcases h.at' with h1 | h1
  ·exact .inl (by rw [hb, h1])
  ·exact .inr (by omega)
 ·rcases h.at' with h1 | h1
  ·subst h1
   exact hk2.less (by rw [List.length_append]; omega)
  ·exact KeepS.off ho2 (fun e => by omega)
 ·rw [e2]
  exact own_off hov ho2 (fun b hb hb' => own_sc hov hsc' (by decide) (by rw [← hb']; exact hb))
 ·rw [e1, List.length_append, List.length_singleton, made_snoc, cA_snoc]
  exact own_off hmv ho2 (fun b hb hb' => own_sc hmv hsc' (by decide) (by rw [← hb']; exact hb))
 ·rw [e1, List.any_append, h.good]
  simp [hg]
end
def WOut (S : Nat) (l : XS) (ms : List XM) (w : World) (e : Ending) (w' : World) : Prop :=
 Off (fun b => b = S) w w' ∧ KeepS S l.length w w' ∧
 match scopeX l ms with
 | none => ∃ v1 v2 : Value, e = .returned (.tuple #[v1, v2, .bool false]) ∧ (∃ A n c, v1 = .slice A n c) ∧ (∃ A n c, v2 = .slice A n c)
 | some l' => ∃ S' cap' A c, e = .returned (.tuple #[ScV S' l'.length cap', .slice A (othersX ms).length c, .bool true]) ∧ ScR S' cap' l' w' ∧ (S' = S ∨ w.heap.size ≤ S') ∧ RC w' (fun b => w.heap.size ≤ b) A (cM (othersX ms))
theorem scope_bad {l : XS} {ms : List XM} {m : XM} {p : Bt} {k : Nat} (hk : k < ms.length) (hm : ms[k] = m) (hd : declX m = some p) (hb : badD (p, m.2) = true) : scopeX l ms = none := by
 unfold scopeX
 rw [if_pos]
 left
 rw [List.any_eq_true]
 refine ⟨(p, m.2), ?_, hb⟩
 unfold declsX
 rw [List.mem_filterMap]
 exact ⟨m, by rw [← hm]; exact List.getElem_mem hk, by rw [hd]; rfl⟩
theorem scope_end {l : XS} {ms : List XM} (h : (declsX ms).any badD = false) : scopeX l ms = if uniqX (madeX (declsX ms)) = true then some (l ++ declsX ms) else none := by
 unfold scopeX
 rw [made_uniq]
 by_cases hn : ((declsX ms).map (·.1)).Nodup
 ·rw [if_neg, decide_eq_true hn, if_pos rfl]
  rintro (h1 | h1)
  ·have : (declsX ms).any badD = true := h1
   rw [h] at this
   cases this
  ·exact h1 hn
 ·rw [if_pos (.inr hn), decide_eq_false hn, if_neg (by decide)]
set_option maxRecDepth 100000 in
set_option maxHeartbeats 4000000 in
theorem with_any {S cap : Nat} {l : XS} {ms : List XM} {T : Nat → Prop} {A : Option Addr} {c : Nat} {w : World} (H : ScR S cap l w) (hl : l.length ≤ 200000) (hm : ms.length ≤ 200000) (hR : RC w T A (cM ms)) (hT : ∀ b, T b → b ≠ S) (hs : SmallM ms) :
    Calls Tryz.prog 102 #[ScV S l.length cap, .slice A ms.length c] w (WOut S l ms w) := by
 have hSlt := H.lt
 have HR := hid hR
 have HT := hid hT
 have HS := hid hs
 have HW0 : Hid (WSt S l (ms.take 0) w S cap (.slice none 0 0) (.slice none 0 0) w) := hid ⟨by rw [List.take_zero]; show ScR S cap (l ++ []) w; rw [List.append_nil]; exact H, .inl rfl, Off.refl _ _, KeepS.refl _ _ _, World.ownsRow_nil _ _ _ _, World.ownsRow_nil _ _ _ _, rfl⟩
 obtain ⟨n, hn⟩ : ∃ n, ms.length = n := ⟨_, rfl⟩
 have HN := hid hn
 rw [hn] at hm ⊢
 clear H hR hT hs hn
 go_enter Tryz.func102, Tryz.ntmps102
 go_wp2
 go_loopw [0, 5, 7, 14] (fun sv ov mv i wr => ∃ (k S' cap' L : Nat) (ov0 mv0 : Value), k ≤ n ∧ i = .int .i64 k ∧ sv = ScV S' L cap' ∧ Hid (L = (l ++ declsX (ms.take k)).length) ∧ ov0 = ov ∧ mv0 = mv ∧ Hid (WSt S l (ms.take k) w S' cap' ov0 mv0 wr)) (fun _ _ _ i _ => n - (RowKit.intOf i).toNat)
 case atStart => exact ⟨0, S, cap, l.length, _, _, Nat.zero_le _, rfl, rfl, hid (by rw [List.take_zero]; show _ = (l ++ []).length; rw [List.append_nil]), rfl, rfl, HW0⟩
 case round =>
  clear HW0
  obtain ⟨k, S', cap', L, ov, mv, hk, rfl, rfl, HLE, rfl, rfl, HW⟩ := hrel
  by_cases hlt : k < n
  ·have hkl : k < ms.length := by rw [HN.out]; exact hlt
   obtain ⟨bb, off, hAe, hTb, hbl, hcl⟩ := HR.out (by rw [cM_len]; omega)
   obtain ⟨c0, c1, c2⟩ := RC.m3 hcl k hkl
   have HTK := hid (List.take_succ_eq_append_getElem hkl)
   obtain ⟨m, hmk⟩ : ∃ m, ms[k] = m := ⟨_, rfl⟩
   have HMK : Hid (ms[k]'hkl = m) := hid hmk
   have HSM := hid (HS.out m (by rw [← hmk]; exact List.getElem_mem hkl))
   rw [hmk] at c0 c1 c2 HTK
   have hne := HT.out bb hTb
   have y0 := HW.out.off.cell c0 hne
   have y1 := HW.out.off.cell c1 hne
   have y2 := HW.out.off.cell c2 hne
   have hdl := decls_len (ms.take k)
   have hol := others_len (ms.take k)
   rw [List.length_take, HN.out] at hdl hol
   have HLL : Hid ((l ++ declsX (ms.take k)).length ≤ 400000) := hid (by rw [List.length_append]; omega)
   subst hAe
   clear c0 c1 c2 hcl hmk hne
   have hwr := HW.out.off.size
   have HW1 := hid (HW.out.below (below_alloc8 wr (.cells #[sV m.1.1, sV m.1.2, sV m.2] TAt (0, 0))))
   have HBl : Hid (Blk wr.heap.size (.cells #[sV m.1.1, sV m.1.2, sV m.2] TAt (0, 0)) (wr.alloc (.cells #[sV m.1.1, sV m.1.2, sV m.2] TAt))) := hid (Blk.new _ wr)
   have HD := hid (fun W => declares_any m W)
   unfold DcO at HD
   clear HW
   cases hd : declX m with
   | none =>
    rw [hd] at HD
    have HDN := hid hd
    clear hd
    go_wp2_with fail
    refine (HD.out _).mono ?_
    rintro e w1 ⟨rfl, b1⟩
    have HB1 := hid (HBl.out.grown (grown_below b1 none) (by simp))
    have HW2 := hid (HW1.out.below b1)
    have z0 := HB1.out.cell 0
    have z1 := HB1.out.cell 1
    have z2 := HB1.out.cell 2
    have hw1 : w.heap.size ≤ w1.heap.size := HW2.out.off.size
    clear b1 HW1 HBl
    obtain ⟨nO, hnO⟩ : ∃ x, (othersX (ms.take k)).length = x := ⟨_, rfl⟩
    have HOW : Hid (w1.ownsRow w.heap.size TAt 3 ov nO (cM (othersX (ms.take k)))) := hid (by rw [← hnO]; exact HW2.out.others)
    have hnO2 : nO ≤ 1000000 := by rw [← hnO]; omega
    have HNO := hid hnO
    clear hnO
    go_wp2_with (at_builtin; refine appR rfl _ _ 111 TAt 3 48 _ Tryz.underlying111 Tryz.info8M rfl (by decide) (by decide) rfl w1 w.heap.size ov nO (cM (othersX (ms.take k))) [sV m.1.1, sV m.1.2, sV m.2] rfl (str3_one _ _ _) rfl HOW.out rfl hnO2 hw1 ?_)
    intro v' w2 hown hoff _
    have HNW := hid (WSt.other HW2.out HDN.out hSlt (by rw [HNO.out]; exact hown) hoff)
    rw [← HTK.out] at HNW
    have HDE : Hid ((l ++ declsX (ms.take k)).length = (l ++ declsX (ms.take (k + 1))).length) := hid (by rw [HTK.out, decls_snoc, HDN.out]; simp)
    clear hown hoff HOW
    go_wp2
    go_roundw
    case rel => exact ⟨k + 1, S', cap', L, _, _, by omega, by go_num, rfl, hid (by rw [HLE.out, HDE.out]), rfl, rfl, HNW⟩
    case measure => simp [RowKit.intOf]; omega
   | some p =>
    rw [hd] at HD
    have HDS := hid hd
    clear hd
    have HD2 : Hid (∀ W, Calls Tryz.prog 121 #[.agg #[.string (bs m.1.1), .string (bs m.1.2)]] W (fun e w' => e = .returned (.tuple #[.string (bs p), .bool true]) ∧ Below W.heap.size W w')) := HD
    clear HD
    cases hbad : badD (p, m.2) with
    | true =>
     have HE : Hid (scopeX l ms = none) := hid (scope_bad hkl HMK.out HDS.out hbad)
     have hpn : ¬ (bs p).toList = [] ∧ (bs p).toList.isEmpty = false ∧ (bs m.2).toList = [] := by
      unfold badD at hbad
      simp only [Bool.and_eq_true, Bool.not_eq_true', beq_eq_false_iff_ne, beq_iff_eq] at hbad
      rw [bs_toList, bs_toList]
      refine ⟨hbad.1, ?_, hbad.2⟩
      cases p with
      | nil => exact absurd rfl hbad.1
      | cons _ _ => rfl
     obtain ⟨hp1, hp2, hp3⟩ := hpn
     clear hbad
     go_wp2_with fail
     refine (HD2.out _).mono ?_
     rintro e w1 ⟨rfl, b1⟩
     have HB1 := hid (HBl.out.grown (grown_below b1 none) (by simp))
     have HW2 := hid (HW1.out.below b1)
     have z0 := HB1.out.cell 0
     have z1 := HB1.out.cell 1
     have z2 := HB1.out.cell 2
     have hw1 : w.heap.size ≤ w1.heap.size := HW2.out.off.size
     clear b1 HW1 HBl
     go_wp2
     go_ret3
     refine ⟨HW2.out.off, HW2.out.keep, ?_⟩
     rw [HE.out]
     exact ⟨_, _, rfl, ⟨none, 0, 0, rfl⟩, ⟨none, 0, 0, rfl⟩⟩
    | false =>
     have HGD := hid hbad
     by_cases hp0 : p = []
     ·have hp1 : (bs p).toList = [] := by rw [bs_toList]; exact hp0
      clear hbad hp0
      go_wp2_with fail
      refine (HD2.out _).mono ?_
      rintro e w1 ⟨rfl, b1⟩
      have HB1 := hid (HBl.out.grown (grown_below b1 none) (by simp))
      have HW2 := hid (HW1.out.below b1)
      have z0 := HB1.out.cell 0
      have z1 := HB1.out.cell 1
      have z2 := HB1.out.cell 2
      have hw1 : w.heap.size ≤ w1.heap.size := HW2.out.off.size
      clear b1 HW1 HBl
      obtain ⟨nM, hnM⟩ : ∃ x, (declsX (ms.take k)).length = x := ⟨_, rfl⟩
      have HMW : Hid (w1.ownsRow w.heap.size TA3 3 mv nM (cA (madeX (declsX (ms.take k))))) := hid (by rw [← hnM]; exact HW2.out.made)
      have hnM2 : nM ≤ 1000000 := by rw [← hnM]; omega
      have HNM := hid hnM
      clear hnM
      go_wp2_with (at_builtin; refine appR rfl _ _ 24 TA3 3 48 _ Tryz.underlying24 Tryz.info8A rfl (by decide) (by decide) rfl w1 w.heap.size mv nM (cA (madeX (declsX (ms.take k)))) [.string ⟨#[]⟩, sV p, .string ⟨#[]⟩] rfl (str3_one _ _ _) rfl HMW.out rfl hnM2 hw1 ?_)
      intro v' w2 hown hoff _
      have HOF := hid hoff
      have HMV2 : Hid (w2.ownsRow w.heap.size TA3 3 v' ((declsX (ms.take k)).length + 1) (cA (madeX (declsX (ms.take k))) ++ fA ([], p, []))) := hid (by rw [HNM.out]; exact hown)
      have hsc2 : ScR S' cap' (l ++ declsX (ms.take k)) w2 := HW2.out.sc.off hoff (fun hb => own_sc HW2.out.made HW2.out.sc (by decide) hb)
      have hq : Blk wr.heap.size (.cells #[sV m.1.1, sV m.1.2, sV m.2] TAt (0, 0)) w2 := HOF.out.blk HB1.out (fun hb => by
       obtain ⟨cur, hcur⟩ := own_kind HW2.out.made hb
       have := hcur.symm.trans HB1.out
       injection this with h1
       injection h1 with _ h2
       exact absurd h2 (by decide))
      have q1 := hq.cell 2
      have HSC2 := hid hsc2
      clear hown hoff HMW hq hsc2
      go_wp2_with (at_builtin; refine appSc rfl _ _ rfl w2 HSC2.out (p, m.2) (by have := HLL.out; omega) HLE.out.symm rfl rfl ?_)
      intro S2 cap2 w3 hs3 ho3 hk3 hat3
      have HNW := hid (WSt.decl HW2.out HDS.out HGD.out hSlt HMV2.out HOF.out (by rw [List.append_assoc]; exact hs3) ho3 (by rw [List.length_append]; exact hk3) hat3)
      rw [← HTK.out] at HNW
      have HDE : Hid ((l ++ declsX (ms.take k)).length + 1 = (l ++ declsX (ms.take (k + 1))).length) := hid (by rw [HTK.out, decls_snoc, HDS.out]; simp; omega)
      clear hs3 ho3 hk3 hat3
      go_wp2
      go_roundw
      case rel => exact ⟨k + 1, S2, cap2, _, _, _, by omega, by go_num, rfl, hid (by rw [HLE.out]; exact HDE.out), rfl, rfl, HNW⟩
      case measure => simp [RowKit.intOf]; omega
     ·have hv : ¬ m.2 = [] := fun e => by
       unfold badD at hbad
       simp only [e] at hbad
       simp [hp0] at hbad
      have hp1 : ¬ (bs p).toList = [] := by rw [bs_toList]; exact hp0
      have hp2 : (bs p).toList.isEmpty = false := by rw [bs_toList]; cases p with
       | nil => exact absurd rfl hp0
       | cons _ _ => rfl
      have hv1 : ¬ (bs m.2).toList = [] := by rw [bs_toList]; exact hv
      have hv2 : (bs m.2).toList.isEmpty = false := by
       rw [bs_toList]
       cases h : m.2 with
       | nil => exact absurd h hv
       | cons _ _ => rfl
      clear hbad hp0 hv
      go_wp2_with fail
      refine (HD2.out _).mono ?_
      rintro e w1 ⟨rfl, b1⟩
      have HB1 := hid (HBl.out.grown (grown_below b1 none) (by simp))
      have HW2 := hid (HW1.out.below b1)
      have z0 := HB1.out.cell 0
      have z1 := HB1.out.cell 1
      have z2 := HB1.out.cell 2
      have hw1 : w.heap.size ≤ w1.heap.size := HW2.out.off.size
      clear b1 HW1 HBl
      obtain ⟨nM, hnM⟩ : ∃ x, (declsX (ms.take k)).length = x := ⟨_, rfl⟩
      have HMW : Hid (w1.ownsRow w.heap.size TA3 3 mv nM (cA (madeX (declsX (ms.take k))))) := hid (by rw [← hnM]; exact HW2.out.made)
      have hnM2 : nM ≤ 1000000 := by rw [← hnM]; omega
      have HNM := hid hnM
      clear hnM
      go_wp2_with (at_builtin; refine appR rfl _ _ 24 TA3 3 48 _ Tryz.underlying24 Tryz.info8A rfl (by decide) (by decide) rfl w1 w.heap.size mv nM (cA (madeX (declsX (ms.take k)))) [.string ⟨#[]⟩, sV p, .string ⟨#[]⟩] rfl (str3_one _ _ _) rfl HMW.out rfl hnM2 hw1 ?_)
      intro v' w2 hown hoff _
      have HOF := hid hoff
      have HMV2 : Hid (w2.ownsRow w.heap.size TA3 3 v' ((declsX (ms.take k)).length + 1) (cA (madeX (declsX (ms.take k))) ++ fA ([], p, []))) := hid (by rw [HNM.out]; exact hown)
      have hsc2 : ScR S' cap' (l ++ declsX (ms.take k)) w2 := HW2.out.sc.off hoff (fun hb => own_sc HW2.out.made HW2.out.sc (by decide) hb)
      have hq : Blk wr.heap.size (.cells #[sV m.1.1, sV m.1.2, sV m.2] TAt (0, 0)) w2 := HOF.out.blk HB1.out (fun hb => by
       obtain ⟨cur, hcur⟩ := own_kind HW2.out.made hb
       have := hcur.symm.trans HB1.out
       injection this with h1
       injection h1 with _ h2
       exact absurd h2 (by decide))
      have q1 := hq.cell 2
      have HSC2 := hid hsc2
      clear hown hoff HMW hq hsc2
      go_wp2_with (at_builtin; refine appSc rfl _ _ rfl w2 HSC2.out (p, m.2) (by have := HLL.out; omega) HLE.out.symm rfl rfl ?_)
      intro S2 cap2 w3 hs3 ho3 hk3 hat3
      have HNW := hid (WSt.decl HW2.out HDS.out HGD.out hSlt HMV2.out HOF.out (by rw [List.append_assoc]; exact hs3) ho3 (by rw [List.length_append]; exact hk3) hat3)
      rw [← HTK.out] at HNW
      have HDE : Hid ((l ++ declsX (ms.take k)).length + 1 = (l ++ declsX (ms.take (k + 1))).length) := hid (by rw [HTK.out, decls_snoc, HDS.out]; simp; omega)
      clear hs3 ho3 hk3 hat3
      go_wp2
      go_roundw
      case rel => exact ⟨k + 1, S2, cap2, _, _, _, by omega, by go_num, rfl, hid (by rw [HLE.out]; exact HDE.out), rfl, rfl, HNW⟩
      case measure => simp [RowKit.intOf]; omega
  ·obtain rfl : k = n := by omega
   have htk : ms.take k = ms := List.take_of_length_le (by rw [HN.out]; exact Nat.le_refl _)
   rw [htk] at HW HLE
   have HE := hid (scope_end (l := l) HW.out.good)
   obtain ⟨mA, mc, rfl, hmc, hmR⟩ := RC.of_own HW.out.made (fun b => w.heap.size ≤ b) (fun b hb => (World.ownsRow.lt HW.out.made b hb).1)
   have HU : Hid (∀ W, Below wr.heap.size wr W → Calls Tryz.prog 91 #[.slice mA (declsX ms).length mc] W (fun e w' => e = .returned (.bool (uniqX (madeX (declsX ms)))) ∧ Below W.heap.size W w')) := hid (fun W hW => by
    have := unique_any (c := mc) (hmR.below hW) (decls_small HS.out) (by unfold madeX; rw [List.length_map]; have := decls_len ms; have := HN.out; omega)
    unfold madeX at this
    rw [List.length_map] at this
    exact this)
   obtain ⟨oA, oc, rfl, hoc, hoR⟩ := RC.of_own HW.out.others (fun b => w.heap.size ≤ b) (fun b hb => (World.ownsRow.lt HW.out.others b hb).1)
   have HOR := hid hoR
   clear htk hmR hoR
   generalize uniqX (madeX (declsX ms)) = u at *
   go_wp2_with fail
   refine (HU.out _ (Below.refl _ _)).mono ?_
   rintro e w1 ⟨rfl, b1⟩
   have HW2 := hid (HW.out.below b1)
   have HOR2 := hid (HOR.out.below b1)
   clear b1
   go_wp2
   go_ret3
   refine ⟨HW2.out.off, HW2.out.keep, ?_⟩
   cases u with
   | true =>
    rw [HE.out, if_pos rfl]
    exact ⟨S', cap', oA, oc, by rw [HLE.out]; rfl, HW2.out.sc, HW2.out.at', HOR2.out⟩
   | false =>
    rw [HE.out, if_neg (by decide)]
    exact ⟨_, _, rfl, ⟨_, _, _, rfl⟩, ⟨_, _, _, rfl⟩⟩
abbrev TTg : TypeId := 113
theorem four_set {B : Nat} {T : TypeId} {x y z u a b c d : Value} {w : World} (h : Blk B (.cells #[x, y, z, u] T (0, 0)) w) : Blk B (.cells #[a, b, c, d] T (0, 0)) ((((w.setCell ⟨B, 0, none⟩ a).setCell ⟨B, 1, none⟩ b).setCell ⟨B, 2, none⟩ c).setCell ⟨B, 3, none⟩ d) := by
 have := (((h.set 0 a).set 1 b).set 2 c).set 3 d
 simpa using this
def tagX (s : Bt) : Option ((XN × List XM × Bool) × Bt) := match markL s with
 | none => none
 | some (nm, s1) => (tagL s1).map fun x => ((nm, x.1, x.2.1), x.2.2)
def TOut (R n : Nat) (sc : Value) (w : World) (o : Option ((XN × List XM × Bool) × Bt)) (e : Ending) (w' : World) : Prop :=
 Off (fun b => b = R) w w' ∧ match o with
 | none => ∃ (x y : Bt) (A : Option Addr) (m c : Nat) (cl : Bool), e = .returned (.tuple #[.agg #[.string (bs x), .string (bs y), .slice A m c, .bool cl], .bool false])
 | some ((nm, ms, cl), r) => RS R r n sc w' ∧ ∃ A c, e = .returned (.tuple #[.agg #[.string (bs nm.1), .string (bs nm.2), .slice A ms.length c, .bool cl], .bool true]) ∧ RC w' (fun b => w.heap.size ≤ b) A (cM ms)
theorem TOut.bad {R n : Nat} {sc : Value} {w w' : World} {o : Option ((XN × List XM × Bool) × Bt)} (h : o = none) (ho : Off (fun b => b = R) w w') : TOut R n sc w o (.returned (.tuple #[.agg #[.string ⟨#[]⟩, .string ⟨#[]⟩, .slice none 0 0, .bool false], .bool false])) w' := by
 subst h
 exact ⟨ho, [], [], none, 0, 0, false, rfl⟩
theorem TOut.good {R n : Nat} {sc : Value} {w w' : World} {o : Option ((XN × List XM × Bool) × Bt)} {nm : XN} {ms : List XM} {cl : Bool} {r : Bt} {A : Option Addr} {c k : Nat} (h : o = some ((nm, ms, cl), r)) (hk : k = ms.length) (hr : RS R r n sc w') (hR : RC w' (fun b => w.heap.size ≤ b) A (cM ms)) (ho : Off (fun b => b = R) w w') :
    TOut R n sc w o (.returned (.tuple #[.agg #[.string (bs nm.1), .string (bs nm.2), .slice A k c, .bool cl], .bool true])) w' := by
 subst h; subst hk
 exact ⟨ho, hr, A, c, rfl, hR⟩
abbrev ZT : Obj := .cells #[.string ⟨#[]⟩, .string ⟨#[]⟩, .slice none 0 0, .bool false] TTg (0, 0)
structure TSt (R n B V : Nat) (sc : Value) (w : World) (nm : XN) (s1 t : Bt) (ms : List XM) (av : Value) (wr : World) : Prop where
 rd : RS R t n sc wr
 zero : Blk B ZT wr
 var : Blk V (.cells #[.string (bs nm.1), .string (bs nm.2), av, .bool false] TTg (0, 0)) wr
 row : wr.ownsRow w.heap.size TAt 3 av ms.length (cM ms)
 off : Off (fun b => b = R) w wr
 eq : tagL s1 = (tagL t).map fun x => (ms ++ x.1, x.2)
theorem own_apartB {w : World} {B k n b : Nat} {e e' : TypeId} {v : Value} {xs : List Value} {cs : Array Value} (h : w.ownsRow B e k v n xs) (h' : Blk b (.cells cs e' (0, 0)) w) (hne : e ≠ e') : v.ownBlock ≠ some b := by
 intro hb
 obtain ⟨c, hc⟩ := own_kind h hb
 have := hc.symm.trans h'
 injection this with h1
 injection h1 with _ h2
 exact hne h2
section
variable {R n B V : Nat} {sc : Value} {w wr w' : World} {nm : XN} {s1 t t' : Bt} {ms : List XM} {av : Value}
end
set_option maxRecDepth 100000 in
set_option maxHeartbeats 4000000 in
theorem tag_any {R : Nat} {s : Bt} {n : Nat} {sc : Value} {w : World} (h : RS R s n sc w) (hm : ML w) (hR : 0 ≠ R) (hs : s.length ≤ 100000) :
    Calls Tryz.prog 80 #[.pointer (some ⟨R, 0, none⟩)] w (TOut R n sc w (tagX s)) := by
 have HM := hid hm
 have hlt := h.lt
 have HBl := hid (below_alloc8 w ZT)
 have H0 := hid (h.below HBl.out)
 have HQ := hid (fun W (hW : RS R s n sc W) => qual_any hW (by omega))
 unfold QOut at HQ
 obtain ⟨o, ho⟩ : ∃ o, tagX s = o := ⟨_, rfl⟩
 have HT : Hid (o = match markL s with | none => none | some (nm, s1) => (tagL s1).map fun x => ((nm, x.1, x.2.1), x.2.2)) := hid ho.symm
 have HL : Hid (∀ m r, markL s = some (m, r) → r.length < s.length) := hid (fun m r h => mark_len h)
 rw [ho]
 have hBw : w.heap.size ≤ w.heap.size := by omega
 have hBR : w.heap.size ≠ R := by omega
 generalize markL s = mo at *
 clear h hm ho
 cases mo with
 | none =>
  have HO : Hid (o = none) := HT
  go_enter Tryz.func80, Tryz.ntmps80
  go_wp2_with fail
  refine (HQ.out _ H0.out).mono ?_
  rintro e w1 ⟨⟨x, y, rfl, hxy⟩, k1, o1⟩
  have hz1 : Blk w.heap.size ZT w1 := o1.blk (Blk.new _ _) hBR
  have hzl := hz1.lt
  have e0 := hz1.cell 0
  have e1 := hz1.cell 1
  have e2 := hz1.cell 2
  have e3 := hz1.cell 3
  have g0 := hz1.free 0
  have g1 := hz1.free 1
  have g2 := hz1.free 2
  have g3 := hz1.free 3
  have HZ1 := hid hz1
  have HO1 := hid ((Off.ofB (F := fun b => b = R) HBl.out).then o1)
  clear hz1
  go_wp2
  have hE := (four_set (a := .string ⟨#[]⟩) (b := .string ⟨#[]⟩) (c := .slice none 0 0) (d := .bool false) HZ1.out).alloc8 (o' := .cells #[.string (bs x), .string (bs y)] TQu)
  have d0 := hE.cell 0
  have d1 := hE.cell 1
  have d2 := hE.cell 2
  have d3 := hE.cell 3
  exact bodyPost_ret (v := .tuple #[.agg #[.string ⟨#[]⟩, .string ⟨#[]⟩, .slice none 0 0, .bool false], .bool false]) (by simp [results, Tryz.results80, go_sem, d0, d1, d2, d3]) rfl (TOut.bad HO.out (((((HO1.out.new hBw _ _).new hBw _ _).new hBw _ _).new hBw _ _).thenB (below_alloc8 _ _)))
 | some mr =>
  obtain ⟨nm, s1⟩ := mr
  have hs1 := HL.out nm s1 rfl
  have HT1 : Hid (o = (tagL s1).map fun x => ((nm, x.1, x.2.1), x.2.2)) := HT
  clear HT HL
  go_enter Tryz.func80, Tryz.ntmps80
  go_wp2_with fail
  refine (HQ.out _ H0.out).mono ?_
  rintro e w1 ⟨⟨x, y, rfl, hxy⟩, k1, o1⟩
  obtain ⟨rfl, rfl⟩ := hxy nm s1 rfl
  have hz1 : Blk w.heap.size ZT w1 := o1.blk (Blk.new _ _) hBR
  have HK1 := hid (k1 nm s1 rfl)
  have HO1 := hid ((Off.ofB (F := fun b => b = R) HBl.out).then o1)
  have hsz1 : w.heap.size < w1.heap.size := by have := hz1.lt; omega
  have HB2 := hid (((Below.refl _ w1).alloc (Nat.le_refl _) (.cells #[.string (bs nm.1), .string (bs nm.2)] TQu (0, 0))).alloc (by simp) (.cells #[.string (bs nm.1), .string (bs nm.2), .slice none 0 0, .bool false] TTg (0, 0)))
  obtain ⟨V, hV⟩ : ∃ V, w1.heap.size + 1 = V := ⟨_, rfl⟩
  have hv1 : Blk V (.cells #[.string (bs nm.1), .string (bs nm.2), .slice none 0 0, .bool false] TTg (0, 0)) ((w1.alloc (.cells #[.string (bs nm.1), .string (bs nm.2)] TQu)).alloc (.cells #[.string (bs nm.1), .string (bs nm.2), .slice none 0 0, .bool false] TTg)) := by
   have := Blk.new (.cells #[.string (bs nm.1), .string (bs nm.2), .slice none 0 0, .bool false] TTg (0, 0)) (w1.alloc (.cells #[.string (bs nm.1), .string (bs nm.2)] TQu (0, 0)))
   rw [← hV]
   simpa using this
  have HS0 : Hid (TSt R n w.heap.size V sc w nm s1 s1 [] (.slice none 0 0) ((w1.alloc (.cells #[.string (bs nm.1), .string (bs nm.2)] TQu)).alloc (.cells #[.string (bs nm.1), .string (bs nm.2), .slice none 0 0, .bool false] TTg))) := hid
   ⟨HK1.out.below HB2.out, (Off.of_below HB2.out).blk hz1 (fun h => h), hv1, World.ownsRow_nil _ _ _ _, HO1.out.thenB HB2.out, by simp⟩
  have hVR : V ≠ R := by omega
  have hVw : w.heap.size ≤ V := by omega
  have hVB : V ≠ w.heap.size := by omega
  clear hxy k1 hz1 hv1 HK1 HO1 HB2 H0 HBl
  go_wp2
  clear hV
  go_loopw [] (fun wr => ∃ (t : Bt) (ms : List XM) (av : Value), t.length ≤ s1.length ∧ ms.length + t.length ≤ s1.length ∧ Hid (TSt R n w.heap.size V sc w nm s1 t ms av wr)) (fun wr => restOf R wr)
  case atStart => exact ⟨s1, [], _, Nat.le_refl _, by simp, HS0⟩
  case round =>
   clear HS0
   obtain ⟨t, ms, av, htl, hml, HSt⟩ := hrel
   have hbl := blanks_le t
   have HSk := hid (skip_any HSt.out.rd)
   have HE := hid (tagL_eq t)
   have HRT := hid (rest_of HSt.out.rd)
   obtain ⟨u, hu⟩ : ∃ u, blanksL t = u := ⟨_, rfl⟩
   rw [hu] at HSk HE hbl
   obtain ⟨bo, hbo⟩ : ∃ b, decide (u.length < t.length) = b := ⟨_, rfl⟩
   rw [hbo] at HSk
   have HBO := hid hbo
   clear hu hbo
   cases h1 : wordL [47, 62] u with
   | some r =>
    have HT1' := hid (fun W (hW : RS R u n sc W) => take_yes hW h1)
    have HTL : Hid (tagL s1 = some (ms, true, r)) := hid (by rw [HSt.out.eq, HE.out, h1]; simp)
    have HOK : Hid (o = some ((nm, ms, true), r)) := hid (by rw [HT1.out, HTL.out]; rfl)
    clear h1 HE HTL
    go_wp2_with fail
    refine HSk.out.mono ?_
    rintro e w2 ⟨rfl, k2, o2⟩
    go_wp2_with fail
    refine (HT1'.out _ k2).mono ?_
    rintro e w3 ⟨rfl, k3, o3⟩
    have HK3 := hid k3
    have HO3 := hid ((HSt.out.off.then o2).then o3)
    have HR3 := hid (own_off HSt.out.row (o2.then o3) (fun b hb e => by have := (World.ownsRow.lt HSt.out.row b hb).1; omega))
    clear k2 k3
    have hzw3 : Blk w.heap.size ZT w3 := (o2.then o3).blk HSt.out.zero hBR
    have hvw3 : Blk V (.cells #[.string (bs nm.1), .string (bs nm.2), av, .bool false] TTg (0, 0)) w3 := (o2.then o3).blk HSt.out.var hVR
    have e0 := hzw3.cell 0
    have e1 := hzw3.cell 1
    have e2 := hzw3.cell 2
    have e3 := hzw3.cell 3
    have g0 := hzw3.free 0
    have g1 := hzw3.free 1
    have g2 := hzw3.free 2
    have g3 := hzw3.free 3
    have v0 := hvw3.cell 0
    have v1 := hvw3.cell 1
    have v2 := hvw3.cell 2
    have v3 := hvw3.cell 3
    have k0 := hvw3.free 0
    have k1' := hvw3.free 1
    have k2' := hvw3.free 2
    have k3' := hvw3.free 3
    have HZw3 := hid hzw3
    have HVw3 := hid hvw3
    clear hzw3 hvw3
    have HZC : Hid (Blk w.heap.size ZT (w3.setCell ⟨V, 3, none⟩ (.bool true))) := hid ((off_set8 w3 V 3 (.bool true)).blk HZw3.out (fun e => hVB e.symm))
    have HVC : Hid (Blk V (.cells #[.string (bs nm.1), .string (bs nm.2), av, .bool true] TTg (0, 0)) (w3.setCell ⟨V, 3, none⟩ (.bool true))) := hid (by have := HVw3.out.set 3 (.bool true); simpa using this)
    have HRC : Hid ((w3.setCell ⟨V, 3, none⟩ (.bool true)).ownsRow w.heap.size TAt 3 av ms.length (cM ms)) := hid (own_off HR3.out (off_set8 w3 V 3 (.bool true)) (fun b hb e => own_apartB HR3.out HVw3.out (by decide) (by rw [← e]; exact hb)))
    have HKC : Hid (RS R r n sc (w3.setCell ⟨V, 3, none⟩ (.bool true))) := hid (HK3.out.off (off_set8 _ _ _ _) (fun e => hVR e.symm))
    have HOC : Hid (Off (fun b => b = R) w (w3.setCell ⟨V, 3, none⟩ (.bool true))) := hid (HO3.out.new hVw _ _)
    clear e0 e1 e2 e3 g0 g1 g2 g3 v0 v1 v2
    have e0 := HZC.out.cell 0
    have e1 := HZC.out.cell 1
    have e2 := HZC.out.cell 2
    have e3 := HZC.out.cell 3
    have g0 := HZC.out.free 0
    have g1 := HZC.out.free 1
    have g2 := HZC.out.free 2
    have g3 := HZC.out.free 3
    have v0 := HVC.out.cell 0
    have v1 := HVC.out.cell 1
    have v2 := HVC.out.cell 2
    have v4 := HVC.out.cell 3
    obtain ⟨A', c', hAe, hcc, _⟩ := RC.of_own HR3.out (fun b => w.heap.size ≤ b) (fun b hb => (World.ownsRow.lt HR3.out b hb).1)
    subst hAe
    go_wp2
    have hE := four_set (a := .string (bs nm.1)) (b := .string (bs nm.2)) (c := .slice A' ms.length c') (d := .bool true) HZC.out
    have d0 := hE.cell 0
    have d1 := hE.cell 1
    have d2 := hE.cell 2
    have d3 := hE.cell 3
    have hoS : ∀ {w1 w2 : World} (j : Nat) (v : Value), w1.ownsRow w.heap.size TAt 3 (.slice A' ms.length c') ms.length (cM ms) → w2 = w1.setCell ⟨w.heap.size, j, none⟩ v → (∀ b, (Value.slice A' ms.length c').ownBlock = some b → b ≠ w.heap.size) → w2.ownsRow w.heap.size TAt 3 (.slice A' ms.length c') ms.length (cM ms) := fun j v h1 h2 h3 => by
     subst h2
     exact own_off h1 (off_set8 _ w.heap.size j v) (fun b hb e => h3 b hb e)
    have hav : ∀ b, (Value.slice A' ms.length c').ownBlock = some b → b ≠ w.heap.size := fun b hb e => own_apartB HRC.out HZC.out (by decide) (by rw [← e]; exact hb)
    have hrow := hoS 3 (.bool true) (hoS 2 (.slice A' ms.length c') (hoS 1 (.string (bs nm.2)) (hoS 0 (.string (bs nm.1)) HRC.out rfl hav) rfl hav) rfl hav) rfl hav
    obtain ⟨A2, c2, hAe, _, hRC⟩ := RC.of_own hrow (fun b => w.heap.size ≤ b) (fun b hb => (World.ownsRow.lt HRC.out b hb).1)
    injection hAe with hA1 _ hA3
    subst hA1; subst hA3
    refine bodyPost_ret (v := .tuple #[.agg #[.string (bs nm.1), .string (bs nm.2), .slice A' ms.length c', .bool true], .bool true]) ?_ rfl ?_
    ·simp [results, Tryz.results80, go_sem, d0, d1, d2, d3]
    exact TOut.good HOK.out rfl ((((HKC.out.off (off_set8 _ _ _ _) hBR.symm).off (off_set8 _ _ _ _) hBR.symm).off (off_set8 _ _ _ _) hBR.symm).off (off_set8 _ _ _ _) hBR.symm) hRC ((((HOC.out.new hBw _ _).new hBw _ _).new hBw _ _).new hBw _ _)
   | none =>
    have HT1' := hid (fun W (hW : RS R u n sc W) => take_no hW h1)
    have HE1 : Hid (tagL t = match wordL [62] u with
     | some r => some ([], false, r)
     | none => if u.length = t.length then none else
      match attrL u with
      | none => none
      | some (m, r) => (tagL r).map fun x => (m :: x.1, x.2)) := hid (by have := HE.out; rw [h1] at this; exact this)
    clear h1 HE
    cases h2 : wordL [62] u with
    | some r =>
     have HT2' := hid (fun W (hW : RS R u n sc W) => take_yes hW h2)
     have HTL : Hid (tagL s1 = some (ms, false, r)) := hid (by rw [HSt.out.eq, HE1.out, h2]; simp)
     have HOK : Hid (o = some ((nm, ms, false), r)) := hid (by rw [HT1.out, HTL.out]; rfl)
     clear h2 HE1 HTL
     go_wp2_with fail
     refine HSk.out.mono ?_
     rintro e w2 ⟨rfl, k2, o2⟩
     go_wp2_with fail
     refine (HT1'.out _ k2).mono ?_
     rintro e w3 ⟨rfl, k3, o3⟩
     go_wp2_with fail
     refine (HT2'.out _ k3).mono ?_
     rintro e w4 ⟨rfl, k4, o4⟩
     have HK3 := hid k4
     have HO3 := hid (((HSt.out.off.then o2).then o3).then o4)
     have HR3 := hid (own_off HSt.out.row ((o2.then o3).then o4) (fun b hb e => by have := (World.ownsRow.lt HSt.out.row b hb).1; omega))
     clear k2 k3 k4
     have hzw4 : Blk w.heap.size ZT w4 := ((o2.then o3).then o4).blk HSt.out.zero hBR
     have hvw4 : Blk V (.cells #[.string (bs nm.1), .string (bs nm.2), av, .bool false] TTg (0, 0)) w4 := ((o2.then o3).then o4).blk HSt.out.var hVR
     have e0 := hzw4.cell 0
     have e1 := hzw4.cell 1
     have e2 := hzw4.cell 2
     have e3 := hzw4.cell 3
     have g0 := hzw4.free 0
     have g1 := hzw4.free 1
     have g2 := hzw4.free 2
     have g3 := hzw4.free 3
     have v0 := hvw4.cell 0
     have v1 := hvw4.cell 1
     have v2 := hvw4.cell 2
     have v3 := hvw4.cell 3
     have k0 := hvw4.free 0
     have k1' := hvw4.free 1
     have k2' := hvw4.free 2
     have k3' := hvw4.free 3
     have HZw4 := hid hzw4
     have HVw4 := hid hvw4
     clear hzw4 hvw4
     have HRC := HR3
     obtain ⟨A', c', hAe, hcc, _⟩ := RC.of_own HR3.out (fun b => w.heap.size ≤ b) (fun b hb => (World.ownsRow.lt HR3.out b hb).1)
     subst hAe
     go_wp2
     have hE := four_set (a := .string (bs nm.1)) (b := .string (bs nm.2)) (c := .slice A' ms.length c') (d := .bool false) HZw4.out
     have d0 := hE.cell 0
     have d1 := hE.cell 1
     have d2 := hE.cell 2
     have d3 := hE.cell 3
     have hoS : ∀ {w1 w2 : World} (j : Nat) (v : Value), w1.ownsRow w.heap.size TAt 3 (.slice A' ms.length c') ms.length (cM ms) → w2 = w1.setCell ⟨w.heap.size, j, none⟩ v → (∀ b, (Value.slice A' ms.length c').ownBlock = some b → b ≠ w.heap.size) → w2.ownsRow w.heap.size TAt 3 (.slice A' ms.length c') ms.length (cM ms) := fun j v h1 h2 h3 => by
      subst h2
      exact own_off h1 (off_set8 _ w.heap.size j v) (fun b hb e => h3 b hb e)
     have hav : ∀ b, (Value.slice A' ms.length c').ownBlock = some b → b ≠ w.heap.size := fun b hb e => own_apartB HR3.out HZw4.out (by decide) (by rw [← e]; exact hb)
     have hrow := hoS 3 (.bool false) (hoS 2 (.slice A' ms.length c') (hoS 1 (.string (bs nm.2)) (hoS 0 (.string (bs nm.1)) HR3.out rfl hav) rfl hav) rfl hav) rfl hav
     obtain ⟨A2, c2, hAe, _, hRC⟩ := RC.of_own hrow (fun b => w.heap.size ≤ b) (fun b hb => (World.ownsRow.lt HR3.out b hb).1)
     injection hAe with hA1 _ hA3
     subst hA1; subst hA3
     refine bodyPost_ret (v := .tuple #[.agg #[.string (bs nm.1), .string (bs nm.2), .slice A' ms.length c', .bool false], .bool true]) ?_ rfl ?_
     ·simp [results, Tryz.results80, go_sem, d0, d1, d2, d3]
     exact TOut.good HOK.out rfl ((((HK3.out.off (off_set8 _ _ _ _) hBR.symm).off (off_set8 _ _ _ _) hBR.symm).off (off_set8 _ _ _ _) hBR.symm).off (off_set8 _ _ _ _) hBR.symm) hRC ((((HO3.out.new hBw _ _).new hBw _ _).new hBw _ _).new hBw _ _)
    | none =>
     have HT2' := hid (fun W (hW : RS R u n sc W) => take_no hW h2)
     have HE2 : Hid (tagL t = if u.length = t.length then none else
      match attrL u with
      | none => none
      | some (m, r) => (tagL r).map fun x => (m :: x.1, x.2)) := hid (by have := HE1.out; rw [h2] at this; exact this)
     clear h2 HE1
     cases bo with
     | false =>
      have hlen : u.length = t.length := by have := HBO.out; rw [decide_eq_false_iff_not] at this; omega
      have HO : Hid (o = none) := hid (by rw [HT1.out, HSt.out.eq, HE2.out, if_pos hlen]; rfl)
      clear hlen HE2
      go_wp2_with fail
      refine HSk.out.mono ?_
      rintro e w2 ⟨rfl, k2, o2⟩
      go_wp2_with fail
      refine (HT1'.out _ k2).mono ?_
      rintro e w3 ⟨rfl, k3, o3⟩
      go_wp2_with fail
      refine (HT2'.out _ k3).mono ?_
      rintro e w4 ⟨rfl, k4, o4⟩
      have HK3 := hid k4
      have HO3 := hid (((HSt.out.off.then o2).then o3).then o4)
      have HR3 := hid (own_off HSt.out.row ((o2.then o3).then o4) (fun b hb e => by have := (World.ownsRow.lt HSt.out.row b hb).1; omega))
      clear k2 k3 k4
      have hzw4 : Blk w.heap.size ZT w4 := ((o2.then o3).then o4).blk HSt.out.zero hBR
      have hvw4 : Blk V (.cells #[.string (bs nm.1), .string (bs nm.2), av, .bool false] TTg (0, 0)) w4 := ((o2.then o3).then o4).blk HSt.out.var hVR
      have e0 := hzw4.cell 0
      have e1 := hzw4.cell 1
      have e2 := hzw4.cell 2
      have e3 := hzw4.cell 3
      have g0 := hzw4.free 0
      have g1 := hzw4.free 1
      have g2 := hzw4.free 2
      have g3 := hzw4.free 3
      have v0 := hvw4.cell 0
      have v1 := hvw4.cell 1
      have v2 := hvw4.cell 2
      have v3 := hvw4.cell 3
      have k0 := hvw4.free 0
      have k1' := hvw4.free 1
      have k2' := hvw4.free 2
      have k3' := hvw4.free 3
      have HZw4 := hid hzw4
      have HVw4 := hid hvw4
      clear hzw4 hvw4
      go_wp2
      have hE := four_set (a := .string ⟨#[]⟩) (b := .string ⟨#[]⟩) (c := .slice none 0 0) (d := .bool false) HZw4.out
      have d0 := hE.cell 0
      have d1 := hE.cell 1
      have d2 := hE.cell 2
      have d3 := hE.cell 3
      exact bodyPost_ret (v := .tuple #[.agg #[.string ⟨#[]⟩, .string ⟨#[]⟩, .slice none 0 0, .bool false], .bool false]) (by simp [results, Tryz.results80, go_sem, d0, d1, d2, d3]) rfl (TOut.bad HO.out ((((HO3.out.new hBw _ _).new hBw _ _).new hBw _ _).new hBw _ _))
     | true =>
      have hlen : ¬ u.length = t.length := by have := HBO.out; rw [decide_eq_true_eq] at this; omega
      have HE3 : Hid (tagL t = match attrL u with
       | none => none
       | some (m, r) => (tagL r).map fun x => (m :: x.1, x.2)) := hid (by rw [HE2.out, if_neg hlen])
      have HA := hid (fun W (hW : RS R u n sc W) (hm : ML W) => attr_any hW hm hR (by omega))
      unfold AOut at HA
      have HLA : Hid (∀ m r, attrL u = some (m, r) → r.length < u.length) := hid (fun m r h => attr_len h)
      clear HE2 hlen
      generalize attrL u = ao at *
      cases ao with
      | none =>
       have HO : Hid (o = none) := hid (by rw [HT1.out, HSt.out.eq, HE3.out]; rfl)
       clear HE3 HLA
       go_wp2_with fail
       refine HSk.out.mono ?_
       rintro e w2 ⟨rfl, k2, o2⟩
       go_wp2_with fail
       refine (HT1'.out _ k2).mono ?_
       rintro e w3 ⟨rfl, k3, o3⟩
       go_wp2_with fail
       refine (HT2'.out _ k3).mono ?_
       rintro e w4 ⟨rfl, k4, o4⟩
       go_wp2_with fail
       refine (HA.out _ k4 (HM.out.rd hR (((HSt.out.off.then o2).then o3).then o4))).mono ?_
       rintro e w5 ⟨⟨x, y, z, rfl, hxyz⟩, k5, o5⟩
       have HOX := hid (((o2.then o3).then o4).then o5)
       have HO3 := hid (HSt.out.off.then HOX.out)
       have HR3 := hid (own_off HSt.out.row HOX.out (fun b hb e => by have := (World.ownsRow.lt HSt.out.row b hb).1; omega))
       clear k2 k3 k4
       clear k5 hxyz
       have hzw5 : Blk w.heap.size ZT w5 := HOX.out.blk HSt.out.zero hBR
       have hvw5 : Blk V (.cells #[.string (bs nm.1), .string (bs nm.2), av, .bool false] TTg (0, 0)) w5 := HOX.out.blk HSt.out.var hVR
       have e0 := hzw5.cell 0
       have e1 := hzw5.cell 1
       have e2 := hzw5.cell 2
       have e3 := hzw5.cell 3
       have g0 := hzw5.free 0
       have g1 := hzw5.free 1
       have g2 := hzw5.free 2
       have g3 := hzw5.free 3
       have v0 := hvw5.cell 0
       have v1 := hvw5.cell 1
       have v2 := hvw5.cell 2
       have v3 := hvw5.cell 3
       have k0 := hvw5.free 0
       have k1' := hvw5.free 1
       have k2' := hvw5.free 2
       have k3' := hvw5.free 3
       have HZw5 := hid hzw5
       have HVw5 := hid hvw5
       clear hzw5 hvw5
       have hzl := HZw5.out.lt
       go_wp2
       have hE := (four_set (a := .string ⟨#[]⟩) (b := .string ⟨#[]⟩) (c := .slice none 0 0) (d := .bool false) HZw5.out).alloc8 (o' := .cells #[.string (bs x), .string (bs y), .string (bs z)] TAt)
       have d0 := hE.cell 0
       have d1 := hE.cell 1
       have d2 := hE.cell 2
       have d3 := hE.cell 3
       exact bodyPost_ret (v := .tuple #[.agg #[.string ⟨#[]⟩, .string ⟨#[]⟩, .slice none 0 0, .bool false], .bool false]) (by simp [results, Tryz.results80, go_sem, d0, d1, d2, d3]) rfl (TOut.bad HO.out (((((HO3.out.new hBw _ _).new hBw _ _).new hBw _ _).new hBw _ _).thenB (below_alloc8 _ _)))
      | some ar =>
       obtain ⟨m, r⟩ := ar
       have hrl := HLA.out m r rfl
       have HE4 : Hid (tagL t = (tagL r).map fun x => (m :: x.1, x.2)) := HE3
       have HE5 : Hid (tagL s1 = (tagL r).map fun x => ((ms ++ [m]) ++ x.1, x.2)) := hid (by rw [HSt.out.eq, HE4.out, Option.map_map]; congr 1; funext x; simp)
       clear HE3 HLA HE4
       go_wp2_with fail
       refine HSk.out.mono ?_
       rintro e w2 ⟨rfl, k2, o2⟩
       go_wp2_with fail
       refine (HT1'.out _ k2).mono ?_
       rintro e w3 ⟨rfl, k3, o3⟩
       go_wp2_with fail
       refine (HT2'.out _ k3).mono ?_
       rintro e w4 ⟨rfl, k4, o4⟩
       go_wp2_with fail
       refine (HA.out _ k4 (HM.out.rd hR (((HSt.out.off.then o2).then o3).then o4))).mono ?_
       rintro e w5 ⟨⟨x, y, z, rfl, hxyz⟩, k5, o5⟩
       have HOX := hid (((o2.then o3).then o4).then o5)
       have HO3 := hid (HSt.out.off.then HOX.out)
       have HR3 := hid (own_off HSt.out.row HOX.out (fun b hb e => by have := (World.ownsRow.lt HSt.out.row b hb).1; omega))
       clear k2 k3 k4
       obtain ⟨rfl, rfl, rfl⟩ := hxyz m r rfl
       have HK5 := hid (k5 m r rfl)
       clear k5 hxyz
       have hzw5 : Blk w.heap.size ZT w5 := HOX.out.blk HSt.out.zero hBR
       have hvw5 : Blk V (.cells #[.string (bs nm.1), .string (bs nm.2), av, .bool false] TTg (0, 0)) w5 := HOX.out.blk HSt.out.var hVR
       have e0 := hzw5.cell 0
       have e1 := hzw5.cell 1
       have e2 := hzw5.cell 2
       have e3 := hzw5.cell 3
       have g0 := hzw5.free 0
       have g1 := hzw5.free 1
       have g2 := hzw5.free 2
       have g3 := hzw5.free 3
       have v0 := hvw5.cell 0
       have v1 := hvw5.cell 1
       have v2 := hvw5.cell 2
       have v3 := hvw5.cell 3
       have k0 := hvw5.free 0
       have k1' := hvw5.free 1
       have k2' := hvw5.free 2
       have k3' := hvw5.free 3
       have HZw5 := hid hzw5
       have HVw5 := hid hvw5
       clear hzw5 hvw5
       have hvl := HVw5.out.lt
       have hw5 : w.heap.size ≤ w5.heap.size := HO3.out.size
       obtain ⟨nO, hnO⟩ : ∃ x, ms.length = x := ⟨_, rfl⟩
       have HOW : Hid (w5.ownsRow w.heap.size TAt 3 av nO (cM ms)) := hid (by rw [← hnO]; exact HR3.out)
       have hnO2 : nO ≤ 1000000 := by rw [← hnO]; omega
       have HNO := hid hnO
       have HMl := hid hml
       clear hnO hml
       have hwa : w.heap.size ≤ (w5.alloc (.cells #[.string (bs m.1.1), .string (bs m.1.2), .string (bs m.2)] TAt)).heap.size := by simp; omega
       go_wp2_with (at_builtin; refine appRH rfl _ _ 111 TAt 3 48 _ Tryz.underlying111 Tryz.info8M rfl (by decide) (by decide) rfl (w5.alloc (.cells #[.string (bs m.1.1), .string (bs m.1.2), .string (bs m.2)] TAt)) (w5.heap.size + 1) (by simp) w.heap.size av nO (cM ms) [.string (bs m.1.1), .string (bs m.1.2), .string (bs m.2)] rfl (str3_one _ _ _) rfl (World.ownsRow.alloc HOW.out _) rfl hnO2 hwa ?_)
       intro v' w6 hown hoff _
       obtain ⟨vA, vc, rfl, _, _⟩ := RC.of_own hown (fun _ => True) (fun _ _ => trivial)
       have hoff2 : Off (fun b => av.ownBlock = some b) w5 w6 := (Off.ofB (below_alloc8 w5 (.cells #[.string (bs m.1.1), .string (bs m.1.2), .string (bs m.2)] TAt (0, 0)))).then hoff
       have hv6 : Blk V (.cells #[.string (bs nm.1), .string (bs nm.2), av, .bool false] TTg (0, 0)) w6 := hoff2.blk HVw5.out (fun hb => own_apartB HOW.out HVw5.out (by decide) hb)
       have hz6 : Blk w.heap.size ZT w6 := hoff2.blk HZw5.out (fun hb => own_apartB HOW.out HZw5.out (by decide) hb)
       have hk6 : RS R r n sc w6 := HK5.out.off hoff2 (fun hb => by have := (World.ownsRow.lt HOW.out R hb).1; omega)
       have HO6 := hid (HO3.out.trans hoff2 (fun b hb => .inr (World.ownsRow.lt HOW.out b hb).1))
       have p2 := hv6.cell 2
       have f2 := hv6.free 2
       have HS7 : Hid (TSt R n w.heap.size V sc w nm s1 r (ms ++ [m]) (.slice vA (nO + 1) vc) (w6.setCell ⟨V, 2, none⟩ (.slice vA (nO + 1) vc))) := hid
        ⟨hk6.off (off_set8 _ _ _ _) (fun e => hVR e.symm), (off_set8 _ _ _ _).blk hz6 (fun e => hVB e.symm), by have := hv6.set 2 (.slice vA (nO + 1) vc); simpa using this,
         own_off (by rw [List.length_append, List.length_singleton, cM_snoc, HNO.out]; exact hown) (off_set8 w6 V 2 (.slice vA (nO + 1) vc)) (fun b hb e => own_apartB hown hv6 (by decide) (by rw [← e]; exact hb)), HO6.out.new hVw _ _, HE5.out⟩
       have hnl : (ms ++ [m]).length + r.length ≤ s1.length := by have := HMl.out; rw [List.length_append, List.length_singleton]; omega
       clear hown hoff hoff2 hv6 hz6 hk6
       go_wp2
       go_roundw
       case rel => exact ⟨r, ms ++ [m], .slice vA (nO + 1) vc, by omega, hnl, HS7⟩
       case measure => rw [rest_of HS7.out.rd, HRT.out]; omega
abbrev TNo : TypeId := 27
abbrev NV (sp nm : Bt) (av kv : Value) (tx : Bt) : Value := .agg #[sV sp, sV nm, av, kv, sV tx]
theorem five_set {B : Nat} {T : TypeId} {x y z u v a b c d e : Value} {w : World} (h : Blk B (.cells #[x, y, z, u, v] T (0, 0)) w) : Blk B (.cells #[a, b, c, d, e] T (0, 0)) (((((w.setCell ⟨B, 0, none⟩ a).setCell ⟨B, 1, none⟩ b).setCell ⟨B, 2, none⟩ c).setCell ⟨B, 3, none⟩ d).setCell ⟨B, 4, none⟩ e) := by
 have := ((((h.set 0 a).set 1 b).set 2 c).set 3 d).set 4 e
 simpa using this
abbrev ZN : Obj := .cells #[.string ⟨#[]⟩, .string ⟨#[]⟩, .slice none 0 0, .slice none 0 0, .string ⟨#[]⟩] TNo (0, 0)
def SOut (S : Nat) (l : XS) (nm : XN) (ms : List XM) (w : World) (e : Ending) (w' : World) : Prop :=
 Off (fun b => b = S) w w' ∧ KeepS S l.length w w' ∧
 match startX l nm ms with
 | none => ∃ (x0 x1 x4 : Bt) (A2 A3 : Option Addr) (n2 c2 n3 c3 : Nat) (v : Value), e = .returned (.tuple #[.agg #[sV x0, sV x1, .slice A2 n2 c2, .slice A3 n3 c3, sV x4], v, .bool false]) ∧ (∃ A n c, v = .slice A n c)
 | some (v, l') => ∃ S' cap' A c, e = .returned (.tuple #[NV v.space v.name (.slice A v.attrs.length c) (.slice none 0 0) [], ScV S' l'.length cap', .bool true]) ∧ ScR S' cap' l' w' ∧ (S' = S ∨ w.heap.size ≤ S') ∧ RC w' (fun b => w.heap.size ≤ b ∧ b ≠ S') A (cA v.attrs) ∧ v.kids = [] ∧ v.text = []
theorem SOut.bad {S : Nat} {l : XS} {nm : XN} {ms : List XM} {w w' : World} (h : startX l nm ms = none) (ho : Off (fun b => b = S) w w') (hk : KeepS S l.length w w') : SOut S l nm ms w (.returned (.tuple #[.agg #[.string ⟨#[]⟩, .string ⟨#[]⟩, .slice none 0 0, .slice none 0 0, .string ⟨#[]⟩], .slice none 0 0, .bool false])) w' := by
 refine ⟨ho, hk, ?_⟩
 rw [h]
 exact ⟨[], [], [], none, none, 0, 0, 0, 0, _, rfl, none, 0, 0, rfl⟩
theorem KeepS.new {S n : Nat} {w w' : World} {B : Nat} (h : KeepS S n w w') (hB : S ≠ B) (j : Nat) (v : Value) : KeepS S n w (w'.setCell ⟨B, j, none⟩ v) := h.trans (KeepS.off (off_set8 w' B j v) hB)
theorem mapX_snoc {α β : Type} (f : α → Option β) (a : α) : ∀ l : List α, mapX f (l ++ [a]) = match mapX f l with | none => none | some r => (f a).map fun b => r ++ [b]
 | [] => by
  show (match f a with | none => none | some b => (mapX f []).map (b :: ·)) = (f a).map fun b => [] ++ [b]
  cases f a <;> rfl
 | x :: l => by
  rw [List.cons_append, mapX, mapX_snoc f a l]
  rw [mapX]
  cases f x with
  | none => rfl
  | some y =>
   simp only
   cases mapX f l with
   | none => rfl
   | some r =>
    simp only [Option.map_some]
    cases f a <;> rfl
theorem mapX_pre {α β : Type} {f : α → Option β} {l : List α} {k : Nat} (h : mapX f (l.take k) = none) : mapX f l = none := by
 have : ∀ (a b : List α), mapX f a = none → mapX f (a ++ b) = none := by
  intro a
  induction a with
  | nil => intro b h; cases h
  | cons x a ih =>
   intro b h
   rw [List.cons_append, mapX]
   rw [mapX] at h
   cases hx : f x with
   | none => rfl
   | some y =>
    rw [hx] at h
    simp only at h ⊢
    cases ha : mapX f a with
    | none => rw [ih b ha]; rfl
    | some r => rw [ha] at h; cases h
 have h2 := this _ (l.drop k) h
 rwa [List.take_append_drop] at h2
theorem attrX_small {sc : XS} {ms : List XM} {l : List XA} (hs : ∀ d ∈ sc, d.2.length ≤ 100000) (hm : SmallM ms) (h : mapX (attrX sc) ms = some l) : SmallA l := by
 have hf : ∀ (sc : XS) (p v : Bt), (∀ d ∈ sc, d.2.length ≤ 100000) → findX sc p = some v → v.length ≤ 100000 := by
  intro sc
  induction sc with
  | nil => intro p v _ h; cases h
  | cons d sc ih =>
   intro p v hs h
   obtain ⟨q, u⟩ := d
   rw [findX] at h
   cases hf : findX sc p with
   | some x =>
    rw [hf] at h
    injection h with h
    subst h
    exact ih p x (fun d hd => hs d (List.mem_cons_of_mem _ hd)) hf
   | none =>
    rw [hf] at h
    simp only at h
    split at h
    ·injection h with h
     subst h
     exact hs (q, u) List.mem_cons_self
    ·cases h
 induction ms generalizing l with
 | nil =>
  injection h with h
  subst h
  intro a ha
  cases ha
 | cons m ms ih =>
  rw [mapX] at h
  cases ha : attrX sc m with
  | none => rw [ha] at h; cases h
  | some a =>
   rw [ha] at h
   simp only at h
   cases hr : mapX (attrX sc) ms with
   | none => rw [hr] at h; cases h
   | some r =>
    rw [hr] at h
    injection h with h
    subst h
    intro x hx
    rcases List.mem_cons.1 hx with rfl | hx
    ·have hmm := hm m List.mem_cons_self
     unfold attrX at ha
     split at ha
     ·injection ha with ha
      subst ha
      exact ⟨by simp, hmm.2⟩
     ·cases hf2 : findX sc m.1.1 with
      | none => rw [hf2] at ha; cases ha
      | some sp =>
       rw [hf2] at ha
       injection ha with ha
       subst ha
       exact ⟨hf sc _ _ hs hf2, hmm.2⟩
    ·exact ih (fun m' hm' => hm m' (List.mem_cons_of_mem _ hm')) hr x hx
theorem mapX_len {α β : Type} {f : α → Option β} : ∀ {l : List α} {r : List β}, mapX f l = some r → r.length = l.length
 | [], r, h => by injection h with h; subst h; rfl
 | a :: l, r, h => by
  rw [mapX] at h
  cases ha : f a with
  | none => rw [ha] at h; cases h
  | some b =>
   rw [ha] at h
   simp only at h
   cases hr : mapX f l with
   | none => rw [hr] at h; cases h
   | some r' =>
    rw [hr] at h
    injection h with h
    subst h
    rw [List.length_cons, List.length_cons, mapX_len hr]
structure ESt (S S' cap' N X : Nat) (sc' l : XS) (w : World) (sp loc : Bt) (os : List XM) (oA : Option Addr) (r : List XA) (av : Value) (wr : World) : Prop where
 sc : ScR S' cap' sc' wr
 at' : S' = S ∨ w.heap.size ≤ S'
 off : Off (fun b => b = S) w wr
 keep : KeepS S l.length w wr
 others : RC wr (fun b => N < b ∧ b < X) oA (cM os)
 node : Blk N (.cells #[sV sp, sV loc, av, .slice none 0 0, .string ⟨#[]⟩] TNo) wr
 row : wr.ownsRow X TA3 3 av r.length (cA r)
 lts : S' < X
 ltn : N < X
 ne : S' ≠ N
 new : w.heap.size ≤ N
 old : S < w.heap.size
 big : X ≤ wr.heap.size
section
variable {S S' cap' N X : Nat} {sc' l : XS} {w wr w' : World} {sp loc : Bt} {os : List XM} {oA : Option Addr} {r : List XA} {av : Value}
theorem ESt.below (h : ESt S S' cap' N X sc' l w sp loc os oA r av wr) (hb : Below wr.heap.size wr w') : ESt S S' cap' N X sc' l w sp loc os oA r av w' :=
 ⟨h.sc.off (Off.of_below hb) (fun h => h), h.at', h.off.thenB hb, h.keep.trans (KeepS.off (Off.of_below hb) (fun h => h)), h.others.below hb, (Off.of_below hb).blk h.node (fun h => h), own_off h.row (Off.of_below hb) (fun _ _ h => h), h.lts, h.ltn, h.ne, h.new, h.old, Nat.le_trans h.big hb.size⟩
theorem ESt.push {a : XA} {av' : Value} (h : ESt S S' cap' N X sc' l w sp loc os oA r av wr) (hown : w'.ownsRow X TA3 3 av' (r.length + 1) (cA r ++ fA a)) (ho : Off (fun b => av.ownBlock = some b) wr w') : ESt S S' cap' N X sc' l w sp loc os oA (r ++ [a]) av' (w'.setCell ⟨N, 2, none⟩ av') := by
 have hge : ∀ b, av.ownBlock = some b → X ≤ b := fun b hb => (World.ownsRow.lt h.row b hb).1
 have h1 := h.lts
 have h2 := h.ltn
 have h3 := h.new
 have h4 := h.old
 have h5 := h.ne
 have hn : Blk N (.cells #[sV sp, sV loc, av, .slice none 0 0, .string ⟨#[]⟩] TNo) w' := ho.blk h.node (fun hb => by have := hge N hb; omega)
 have o2 := off_set8 w' N 2 av'
 refine ⟨(h.sc.off ho (fun hb => by have := hge _ hb; omega)).off o2 h5, h.at', (h.off.trans ho (fun b hb => .inr (by have := hge b hb; omega))).new h3 2 av', (h.keep.trans (KeepS.off ho (fun hb => by have := hge _ hb; omega))).new (by omega) 2 av',
  (h.others.off ho (fun b hb e => by have := hge b e; omega)).off o2 (fun b hb e => by omega), by have := hn.set 2 av'; simpa using this, ?_, h1, h2, h5, h3, h4, Nat.le_trans (Nat.le_trans h.big ho.size) o2.size⟩
 rw [List.length_append, List.length_singleton, cA_snoc]
 exact own_off hown o2 (fun b hb e => by have := (World.ownsRow.lt hown b hb).1; omega)
end
theorem ESt.set5 {S S' cap' N X : Nat} {sc' l : XS} {w wr : World} {sp loc : Bt} {os : List XM} {oA : Option Addr} {r : List XA} {av : Value} (h : ESt S S' cap' N X sc' l w sp loc os oA r av wr) :
    ESt S S' cap' N X sc' l w sp loc os oA r av (((((wr.setCell ⟨N, 0, none⟩ (sV sp)).setCell ⟨N, 1, none⟩ (sV loc)).setCell ⟨N, 2, none⟩ av).setCell ⟨N, 3, none⟩ (.slice none 0 0)).setCell ⟨N, 4, none⟩ (.string ⟨#[]⟩)) := by
 have hb := five_set (a := sV sp) (b := sV loc) (c := av) (d := .slice none 0 0) (e := .string ⟨#[]⟩) h.node
 have o := ((((off_set8 wr N 0 (sV sp)).then (off_set8 _ N 1 (sV loc))).then (off_set8 _ N 2 av)).then (off_set8 _ N 3 (.slice none 0 0))).then (off_set8 _ N 4 (.string ⟨#[]⟩))
 have h2 := h.ltn
 have h3 := h.new
 have h4 := h.old
 exact ⟨h.sc.off o h.ne, h.at', h.off.trans o (fun b hb => .inr (by omega)), h.keep.trans (KeepS.off o (by omega)), h.others.off o (fun b hb e => by omega), hb, own_off h.row o (fun b hb e => by have := (World.ownsRow.lt h.row b hb).1; omega), h.lts, h.ltn, h.ne, h.new, h.old, Nat.le_trans h.big o.size⟩
theorem ESt.rowRC {S S' cap' N X : Nat} {sc' l : XS} {w wr : World} {sp loc : Bt} {os : List XM} {oA : Option Addr} {r : List XA} {aA : Option Addr} {ac : Nat} (h : ESt S S' cap' N X sc' l w sp loc os oA r (.slice aA r.length ac) wr) : RC wr (fun b => w.heap.size ≤ b ∧ b ≠ S') aA (cA r) := by
 obtain ⟨A', c', he, _, hr⟩ := RC.of_own h.row (fun b => w.heap.size ≤ b ∧ b ≠ S') (fun b hb => by have h1 := (World.ownsRow.lt h.row b hb).1; have h2 := h.ltn; have h3 := h.new; have h4 := h.lts; omega)
 injection he with h1 _ _
 subst h1
 exact hr
theorem RC.lt {w : World} {T : Nat → Prop} {A : Option Addr} {cs : List Value} (h : RC w T A cs) : RC w (fun b => T b ∧ b < w.heap.size) A cs := fun h0 => by
 obtain ⟨b, off, e, ht, hb, hc⟩ := h h0
 exact ⟨b, off, e, ⟨ht, hb⟩, hb, hc⟩
def NodeS (N : Nat) (sp loc : Bt) (aA : Option Addr) (n ac : Nat) (W : World) : Prop := Blk N (.cells #[sV sp, sV loc, .slice aA n ac, .slice none 0 0, .string ⟨#[]⟩] TNo) W
theorem nodeS {N : Nat} {sp loc : Bt} {aA : Option Addr} {n ac : Nat} {W : World} (h : Blk N (.cells #[sV sp, sV loc, .slice aA n ac, .slice none 0 0, .string ⟨#[]⟩] TNo) W) :
    (W.cell? ⟨N, 0, none⟩ = some (sV sp) ∧ W.cell? ⟨N, 1, none⟩ = some (sV loc) ∧ W.cell? ⟨N, 2, none⟩ = some (.slice aA n ac) ∧ W.cell? ⟨N, 3, none⟩ = some (.slice none 0 0) ∧ W.cell? ⟨N, 4, none⟩ = some (.string ⟨#[]⟩)) ∧
    (W.frozen? ⟨N, 0, none⟩ = false ∧ W.frozen? ⟨N, 1, none⟩ = false ∧ W.frozen? ⟨N, 2, none⟩ = false ∧ W.frozen? ⟨N, 3, none⟩ = false ∧ W.frozen? ⟨N, 4, none⟩ = false) :=
 ⟨⟨h.cell 0, h.cell 1, h.cell 2, h.cell 3, h.cell 4⟩, h.free 0, h.free 1, h.free 2, h.free 3, h.free 4⟩
def SmallS (sc : XS) : Prop := ∀ d ∈ sc, d.2.length ≤ 100000
set_option maxRecDepth 100000 in
set_option maxHeartbeats 40000000 in
theorem selem_any {S cap : Nat} {l : XS} {nm : XN} {ms : List XM} {T : Nat → Prop} {A : Option Addr} {c : Nat} {cl : Bool} {w : World} (H : ScR S cap l w) (hl : l.length ≤ 200000) (hm : ms.length ≤ 200000) (hR : RC w T A (cM ms)) (hT : ∀ b, T b → b ≠ S) (hs : SmallM ms) (hls : SmallS l) (hmv : ∀ m ∈ ms, m.2.length ≤ 100000) :
    Calls Tryz.prog 81 #[ScV S l.length cap, .agg #[sV nm.1, sV nm.2, .slice A ms.length c, .bool cl]] w (SOut S l nm ms w) := by
 have hSlt := H.lt
 obtain ⟨W0, hW0⟩ : ∃ W, (w.alloc (.cells #[sV nm.1, sV nm.2, .slice A ms.length c, .bool cl] TTg)).alloc ZN = W := ⟨_, rfl⟩
 have hb0 : Below w.heap.size w W0 := by rw [← hW0]; exact ((Below.refl _ w).alloc (Nat.le_refl _) _).alloc (by simp) _
 have hz0 : W0.heap.size = w.heap.size + 2 := by rw [← hW0]; simp
 have hX0 : Blk w.heap.size (.cells #[sV nm.1, sV nm.2, .slice A ms.length c, .bool cl] TTg (0, 0)) W0 := by rw [← hW0]; exact (Blk.new _ w).alloc8
 have hN0 : Blk (w.heap.size + 1) ZN W0 := by
  rw [← hW0]
  have := Blk.new ZN (w.alloc (.cells #[sV nm.1, sV nm.2, .slice A ms.length c, .bool cl] TTg (0, 0)))
  simpa using this
 have HWi := hid (with_any (c := c) (H.off (Off.of_below hb0) (fun h => h)) hl hm (hR.below hb0) hT hs)
 unfold WOut at HWi
 have HE : Hid (startX l nm ms = match scopeX l ms with
 | none => none
 | some sc' => match findX sc' nm.1 with
  | none => none
  | some sp => match mapX (attrX sc') (othersX ms) with
   | none => none
   | some l => if uniqX l = true then some (.mk sp nm.2 l [] [], sc') else none) := hid rfl
 have HSL : Hid (∀ l', scopeX l ms = some l' → l' = l ++ declsX ms) := hid (fun l' h => by
  unfold scopeX at h
  split at h
  ·cases h
  ·injection h with h
   exact h.symm)
 have HX0 := hid hX0
 have HN0 := hid hN0
 have HB0 := hid hb0
 have x0 := hX0.cell 0
 have x1 := hX0.cell 1
 have x2 := hX0.cell 2
 have x3 := hX0.cell 3
 obtain ⟨nM, hnM⟩ : ∃ n, ms.length = n := ⟨_, rfl⟩
 rw [hnM] at hW0 x2 HX0 HWi ⊢
 have hmM : nM ≤ 200000 := by rw [← hnM]; exact hm
 have HNM := hid hnM
 have HH := hid H
 have HS := hid hs
 clear hX0 hN0 hb0 H hR hT hnM hs
 cases hsx : scopeX l ms with
 | none =>
  rw [hsx] at HWi
  have HO : Hid (startX l nm ms = none) := hid (by rw [HE.out, hsx])
  clear hsx HE HSL
  go_enter Tryz.func81, Tryz.ntmps81
  go_wp2_with fail
  refine HWi.out.mono ?_
  rintro e w1 ⟨o1, k1, v1, v2, rfl, ⟨A1, n1, c1, rfl⟩, ⟨A2, n2, c2, rfl⟩⟩
  have hz1 := o1.blk HN0.out (by omega)
  have e0 := hz1.cell 0
  have e1 := hz1.cell 1
  have e2 := hz1.cell 2
  have e3 := hz1.cell 3
  have e4 := hz1.cell 4
  have g0 := hz1.free 0
  have g1 := hz1.free 1
  have g2 := hz1.free 2
  have g3 := hz1.free 3
  have g4 := hz1.free 4
  have HZ1 := hid hz1
  have HO1 := hid ((Off.ofB (F := fun b => b = S) HB0.out).then o1)
  have HK1 := hid ((KeepS.off (Off.of_below HB0.out) (fun h => h) : KeepS S l.length w W0).trans k1)
  clear o1 k1 hz1
  go_wp2
  have hE := five_set (a := .string ⟨#[]⟩) (b := .string ⟨#[]⟩) (c := .slice none 0 0) (d := .slice none 0 0) (e := .string ⟨#[]⟩) HZ1.out
  have d0 := hE.cell 0
  have d1 := hE.cell 1
  have d2 := hE.cell 2
  have d3 := hE.cell 3
  have d4 := hE.cell 4
  refine bodyPost_ret (v := .tuple #[.agg #[.string ⟨#[]⟩, .string ⟨#[]⟩, .slice none 0 0, .slice none 0 0, .string ⟨#[]⟩], .slice none 0 0, .bool false]) ?_ rfl ?_
  ·simp [results, Tryz.results81, go_sem, d0, d1, d2, d3, d4]
  have hNw : w.heap.size ≤ w.heap.size + 1 := by omega
  have hNS : S ≠ w.heap.size + 1 := by omega
  exact SOut.bad HO.out (((((HO1.out.new hNw _ _).new hNw _ _).new hNw _ _).new hNw _ _).new hNw _ _) (((((HK1.out.new hNS _ _).new hNS _ _).new hNS _ _).new hNS _ _).new hNS _ _)
 | some l' =>
  have HE1 : Hid (startX l nm ms = match findX l' nm.1 with
  | none => none
  | some sp => match mapX (attrX l') (othersX ms) with
   | none => none
   | some l => if uniqX l = true then some (.mk sp nm.2 l [] [], l') else none) := hid (by have := HE.out; rw [hsx] at this; exact this)
  have hl'e := HSL.out l' hsx
  have hl'l : l'.length ≤ 1000000 := by rw [hl'e, List.length_append]; have := decls_len ms; have := HNM.out; omega
  have hl's : SmallS l' := by
   rw [hl'e]
   intro d hd
   rcases List.mem_append.1 hd with h | h
   ·exact hls d h
   ·unfold declsX at h
    obtain ⟨m, hm, he⟩ := List.mem_filterMap.1 h
    cases hdm : declX m with
    | none => rw [hdm] at he; cases he
    | some p =>
     rw [hdm] at he
     injection he with he
     subst he
     exact hmv m hm
  rw [hsx] at HWi
  have HLS := hid hl's
  clear hsx HE HSL hl'e hl's
  have hSp := fun W (hW : ∃ S' cap', ScR S' cap' l' W) => hW
  obtain ⟨os, hos⟩ : ∃ os, othersX ms = os := ⟨_, rfl⟩
  have hol : os.length ≤ nM := by rw [← hos, ← HNM.out]; exact others_len ms
  have HOS : Hid (SmallM os) := hid (by rw [← hos]; intro m hm; exact HS.out m (List.mem_filter.1 hm).1)
  rw [hos] at HWi HE1
  clear hos hSp
  have hNw : w.heap.size ≤ w.heap.size + 1 := by omega
  have hNS : S ≠ w.heap.size + 1 := by omega
  cases hfx : findX l' nm.1 with
  | none =>
   have HO : Hid (startX l nm ms = none) := hid (by rw [HE1.out, hfx])
   have HSp : Hid (∀ S' cap' W, ScR S' cap' l' W → Calls Tryz.prog 103 #[ScV S' l'.length cap', .string (bs nm.1)] W (fun e w' => e = .returned (.tuple #[.string ⟨#[]⟩, .bool false]) ∧ W = w')) := hid (fun S' cap' W hW => by have := space_any hW hl'l nm.1; rw [hfx] at this; exact this)
   clear hfx HE1
   go_enter Tryz.func81, Tryz.ntmps81
   go_wp2_with fail
   refine HWi.out.mono ?_
   rintro e w1 ⟨o1, k1, S', cap', oA, oc, rfl, hsc1, hat, hoR⟩
   have hX1 := o1.blk HX0.out (by omega)
   have y0 := hX1.cell 0
   have y1 := hX1.cell 1
   have hz1 := o1.blk HN0.out (by omega)
   have e0 := hz1.cell 0
   have e1 := hz1.cell 1
   have e2 := hz1.cell 2
   have e3 := hz1.cell 3
   have e4 := hz1.cell 4
   have g0 := hz1.free 0
   have g1 := hz1.free 1
   have g2 := hz1.free 2
   have g3 := hz1.free 3
   have g4 := hz1.free 4
   have HZ1 := hid hz1
   have HX1 := hid hX1
   have HO1 := hid ((Off.ofB (F := fun b => b = S) HB0.out).then o1)
   have HK1 := hid ((KeepS.off (Off.of_below HB0.out) (fun h => h) : KeepS S l.length w W0).trans k1)
   have HSC1 := hid hsc1
   have HOR : Hid (RC w1 (fun b => w.heap.size + 2 ≤ b) oA (cM os)) := hid (by rw [← hz0]; exact hoR)
   have HAT : Hid (S' = S ∨ w.heap.size ≤ S') := hid (hat.imp (fun h => h) (fun h => by omega))
   have hS'N : S' ≠ w.heap.size + 1 := by rcases hat with h | h <;> omega
   clear o1 k1 hz1 hX1 hsc1 hat hoR
   go_wp2_with fail
   refine (HSp.out _ _ _ (HSC1.out.off (off_set8 _ _ _ _) hS'N)).mono ?_
   rintro e w2 ⟨rfl, rfl⟩
   have hz2 : Blk (w.heap.size + 1) (.cells #[.string ⟨#[]⟩, sV nm.2, .slice none 0 0, .slice none 0 0, .string ⟨#[]⟩] TNo) ((w1.setCell ⟨w.heap.size + 1, 1, none⟩ (.string (bs nm.2))).setCell ⟨w.heap.size + 1, 0, none⟩ (.string ⟨#[]⟩)) := by
    have := (HZ1.out.set 1 (.string (bs nm.2))).set 0 (.string ⟨#[]⟩)
    simpa using this
   have HZ2 := hid hz2
   have i0 := hz2.cell 0
   have i1 := hz2.cell 1
   have i2 := hz2.cell 2
   have i3 := hz2.cell 3
   have i4 := hz2.cell 4
   have j0 := hz2.free 0
   have j1 := hz2.free 1
   have j2 := hz2.free 2
   have j3 := hz2.free 3
   have j4 := hz2.free 4
   clear hz2
   go_wp2
   have hE := five_set (a := .string ⟨#[]⟩) (b := .string ⟨#[]⟩) (c := .slice none 0 0) (d := .slice none 0 0) (e := .string ⟨#[]⟩) HZ2.out
   have d0 := hE.cell 0
   have d1 := hE.cell 1
   have d2 := hE.cell 2
   have d3 := hE.cell 3
   have d4 := hE.cell 4
   refine bodyPost_ret (v := .tuple #[.agg #[.string ⟨#[]⟩, .string ⟨#[]⟩, .slice none 0 0, .slice none 0 0, .string ⟨#[]⟩], .slice none 0 0, .bool false]) ?_ rfl ?_
   ·simp [results, Tryz.results81, go_sem, d0, d1, d2, d3, d4]
   exact SOut.bad HO.out (((((((HO1.out.new hNw _ _).new hNw _ _).new hNw _ _).new hNw _ _).new hNw _ _).new hNw _ _).new hNw _ _) (((((((HK1.out.new hNS _ _).new hNS _ _).new hNS _ _).new hNS _ _).new hNS _ _).new hNS _ _).new hNS _ _)
  | some sp =>
   have HE2 : Hid (startX l nm ms = match mapX (attrX l') os with
   | none => none
   | some l => if uniqX l = true then some (.mk sp nm.2 l [] [], l') else none) := hid (by have := HE1.out; rw [hfx] at this; exact this)
   have HSp : Hid (∀ S' cap' W, ScR S' cap' l' W → Calls Tryz.prog 103 #[ScV S' l'.length cap', .string (bs nm.1)] W (fun e w' => e = .returned (.tuple #[.string (bs sp), .bool true]) ∧ W = w')) := hid (fun S' cap' W hW => by have := space_any hW hl'l nm.1; rw [hfx] at this; exact this)
   clear hfx HE1
   go_enter Tryz.func81, Tryz.ntmps81
   go_wp2_with fail
   refine HWi.out.mono ?_
   rintro e w1 ⟨o1, k1, S', cap', oA, oc, rfl, hsc1, hat, hoR⟩
   have hX1 := o1.blk HX0.out (by omega)
   have y0 := hX1.cell 0
   have y1 := hX1.cell 1
   have hz1 := o1.blk HN0.out (by omega)
   have e0 := hz1.cell 0
   have e1 := hz1.cell 1
   have e2 := hz1.cell 2
   have e3 := hz1.cell 3
   have e4 := hz1.cell 4
   have g0 := hz1.free 0
   have g1 := hz1.free 1
   have g2 := hz1.free 2
   have g3 := hz1.free 3
   have g4 := hz1.free 4
   have HZ1 := hid hz1
   have HX1 := hid hX1
   have HO1 := hid ((Off.ofB (F := fun b => b = S) HB0.out).then o1)
   have HK1 := hid ((KeepS.off (Off.of_below HB0.out) (fun h => h) : KeepS S l.length w W0).trans k1)
   have HSC1 := hid hsc1
   have HOR : Hid (RC w1 (fun b => w.heap.size + 2 ≤ b) oA (cM os)) := hid (by rw [← hz0]; exact hoR)
   have HAT : Hid (S' = S ∨ w.heap.size ≤ S') := hid (hat.imp (fun h => h) (fun h => by omega))
   have hS'N : S' ≠ w.heap.size + 1 := by rcases hat with h | h <;> omega
   clear o1 k1 hz1 hX1 hsc1 hat hoR
   go_wp2_with fail
   refine (HSp.out _ _ _ (HSC1.out.off (off_set8 _ _ _ _) hS'N)).mono ?_
   rintro e w2 ⟨rfl, rfl⟩
   have HZ2 : Hid (Blk (w.heap.size + 1) (.cells #[sV sp, sV nm.2, .slice none 0 0, .slice none 0 0, .string ⟨#[]⟩] TNo) ((w1.setCell ⟨w.heap.size + 1, 1, none⟩ (.string (bs nm.2))).setCell ⟨w.heap.size + 1, 0, none⟩ (.string (bs sp)))) := hid (by
    have := (HZ1.out.set 1 (.string (bs nm.2))).set 0 (.string (bs sp))
    simpa using this)
   have hsz1 : w.heap.size + 2 ≤ w1.heap.size := by have := HO1.out.size; have := HZ1.out.lt; omega
   have HS0 : Hid (ESt S S' cap' (w.heap.size + 1) w1.heap.size l' l w sp nm.2 os oA [] (.slice none 0 0) ((w1.setCell ⟨w.heap.size + 1, 1, none⟩ (.string (bs nm.2))).setCell ⟨w.heap.size + 1, 0, none⟩ (.string (bs sp)))) := hid
    ⟨(HSC1.out.off (off_set8 _ _ _ _) hS'N).off (off_set8 _ _ _ _) hS'N, HAT.out, (HO1.out.new hNw _ _).new hNw _ _, (HK1.out.new hNS _ _).new hNS _ _,
     (((HOR.out.lt.mono (fun b hb => ⟨by omega, hb.2⟩) : RC w1 (fun b => w.heap.size + 1 < b ∧ b < w1.heap.size) oA (cM os)).off (off_set8 _ _ _ _) (fun b hb e => by omega)).off (off_set8 _ _ _ _) (fun b hb e => by omega)),
     HZ2.out, World.ownsRow_nil _ _ _ _, HSC1.out.lt, by omega, hS'N, by omega, hSlt, by simp⟩
   clear HZ2 HZ1 HSC1 HOR HX1 HO1 HK1 HAT
   obtain ⟨X, hX⟩ : ∃ X, w1.heap.size = X := ⟨_, rfl⟩
   rw [hX] at HS0
   go_wp2
   obtain ⟨wA, hwA⟩ : ∃ W, (w1.setCell ⟨w.heap.size + 1, 1, none⟩ (.string (bs nm.2))).setCell ⟨w.heap.size + 1, 0, none⟩ (.string (bs sp)) = W := ⟨_, rfl⟩
   rw [hwA] at HS0 ⊢
   clear hwA hX e0 e1 e2 e3 e4 g0 g1 g2 g3 g4 y0 y1 x0 x1 x2 x3 hW0
   obtain ⟨nO, hnO⟩ : ∃ n, os.length = n := ⟨_, rfl⟩
   rw [hnO] at hol ⊢
   have HNO := hid hnO
   clear hnO
   go_loopw [5, 41] (fun sv i wr => ∃ (k : Nat) (r : List XA) (av : Value), k ≤ nO ∧ i = .int .i64 k ∧ sv = ScV S' l'.length cap' ∧ Hid (mapX (attrX l') (os.take k) = some r) ∧ Hid (ESt S S' cap' (w.heap.size + 1) X l' l w sp nm.2 os oA r av wr)) (fun _ i _ => nO - (RowKit.intOf i).toNat)
   case atStart => exact ⟨0, [], _, Nat.zero_le _, rfl, rfl, hid rfl, HS0⟩
   case round =>
    clear HS0
    obtain ⟨k, r, av, hk, rfl, rfl, HMX, HSt⟩ := hrel
    by_cases hlt : k < nO
    ·have hkl : k < os.length := by rw [HNO.out]; exact hlt
     obtain ⟨bb, off, hAe, hTb, hbl, hcl⟩ := HSt.out.others (by rw [cM_len]; omega)
     obtain ⟨c0, c1, c2⟩ := RC.m3 hcl k hkl
     have HTK := hid (List.take_succ_eq_append_getElem hkl)
     obtain ⟨m, hmk⟩ : ∃ m, os[k] = m := ⟨_, rfl⟩
     rw [hmk] at c0 c1 c2 HTK
     have HMS := hid (mapX_snoc (attrX l') m (os.take k))
     rw [← HTK.out, HMX.out] at HMS
     subst hAe
     clear hcl hmk HTK
     have HS1 := hid (HSt.out.below (below_alloc8 wr (.cells #[sV m.1.1, sV m.1.2, sV m.2] TAt (0, 0))))
     have HA := hid (scattr_any HS1.out.sc hl'l m)
     unfold AtO at HA
     cases hao : attrX l' m with
     | none =>
      have HO : Hid (startX l nm ms = none) := hid (by
       rw [HE2.out, mapX_pre (k := k + 1) (by rw [HMS.out, hao]; rfl)])
      rw [hao] at HA
      clear hao HMS
      go_wp2_with fail
      refine HA.out.mono ?_
      rintro e w2 ⟨⟨x, y, z, rfl, hxyz⟩, b2⟩
      have HS2 := hid (HS1.out.below b2)
      have hz2 := HS2.out.node
      have hzl := hz2.lt
      have i0 := hz2.cell 0
      have i1 := hz2.cell 1
      have i2 := hz2.cell 2
      have i3 := hz2.cell 3
      have i4 := hz2.cell 4
      have j0 := hz2.free 0
      have j1 := hz2.free 1
      have j2 := hz2.free 2
      have j3 := hz2.free 3
      have j4 := hz2.free 4
      clear hz2 b2 hxyz
      go_wp2
      have hE := (five_set (a := .string ⟨#[]⟩) (b := .string ⟨#[]⟩) (c := .slice none 0 0) (d := .slice none 0 0) (e := .string ⟨#[]⟩) HS2.out.node).alloc8 (o' := .cells #[.string (bs x), .string (bs y), .string (bs z)] TA3)
      have d0 := hE.cell 0
      have d1 := hE.cell 1
      have d2 := hE.cell 2
      have d3 := hE.cell 3
      have d4 := hE.cell 4
      refine bodyPost_ret (v := .tuple #[.agg #[.string ⟨#[]⟩, .string ⟨#[]⟩, .slice none 0 0, .slice none 0 0, .string ⟨#[]⟩], .slice none 0 0, .bool false]) ?_ rfl ?_
      ·simp [results, Tryz.results81, go_sem, d0, d1, d2, d3, d4]
      exact SOut.bad HO.out ((((((HS2.out.off.new hNw _ _).new hNw _ _).new hNw _ _).new hNw _ _).new hNw _ _).thenB (below_alloc8 _ _)) ((((((HS2.out.keep.new hNS _ _).new hNS _ _).new hNS _ _).new hNS _ _).new hNS _ _).trans (KeepS.off (Off.of_below (below_alloc8 _ _)) (fun h => h)))
     | some a =>
      have HMX2 : Hid (mapX (attrX l') (os.take (k + 1)) = some (r ++ [a])) := hid (by rw [HMS.out, hao]; rfl)
      rw [hao] at HA
      clear hao HMS
      go_wp2_with fail
      refine HA.out.mono ?_
      rintro e w2 ⟨⟨x, y, z, rfl, hxyz⟩, b2⟩
      obtain ⟨rfl, rfl, rfl⟩ := hxyz a rfl
      have HS2 := hid (HS1.out.below b2)
      have hz2 := HS2.out.node
      have hzl := hz2.lt
      have i2 := hz2.cell 2
      have hw2 : X ≤ w2.heap.size := HS2.out.big
      obtain ⟨nR, hnR⟩ : ∃ x, r.length = x := ⟨_, rfl⟩
      have HRW : Hid (w2.ownsRow X TA3 3 av nR (cA r)) := hid (by rw [← hnR]; exact HS2.out.row)
      have hnR2 : nR ≤ 1000000 := by
       rw [← hnR, mapX_len HMX.out, List.length_take]; omega
      have HNR := hid hnR
      clear hz2 b2 hnR
      have hwa : X ≤ (w2.alloc (.cells #[.string (bs a.1), .string (bs a.2.1), .string (bs a.2.2)] TA3)).heap.size := by simp; omega
      go_wp2_with (at_builtin; refine appRH rfl _ _ 24 TA3 3 48 _ Tryz.underlying24 Tryz.info8A rfl (by decide) (by decide) rfl (w2.alloc (.cells #[.string (bs a.1), .string (bs a.2.1), .string (bs a.2.2)] TA3)) (w2.heap.size + 1) (by simp) X av nR (cA r) [.string (bs a.1), .string (bs a.2.1), .string (bs a.2.2)] rfl (str3_one _ _ _) rfl (World.ownsRow.alloc HRW.out _) rfl hnR2 hwa ?_)
      intro v' w3 hown hoff _
      obtain ⟨vA, vc, rfl, _, _⟩ := RC.of_own hown (fun _ => True) (fun _ _ => trivial)
      have hoff2 : Off (fun b => av.ownBlock = some b) w2 w3 := (Off.ofB (below_alloc8 w2 (.cells #[.string (bs a.1), .string (bs a.2.1), .string (bs a.2.2)] TA3 (0, 0)))).then hoff
      have hz3 : Blk (w.heap.size + 1) (.cells #[sV sp, sV nm.2, av, .slice none 0 0, .string ⟨#[]⟩] TNo) w3 := hoff2.blk HS2.out.node (fun hb => own_apartB HRW.out HS2.out.node (by decide) hb)
      have q2 := hz3.cell 2
      have f2 := hz3.free 2
      have HS3 := hid (ESt.push (a := a) HS2.out (by rw [HNR.out]; exact hown) hoff2)
      clear hown hoff hoff2 hz3
      go_wp2
      go_roundw
      case rel => exact ⟨k + 1, r ++ [a], _, by omega, by go_num, rfl, HMX2, HS3⟩
      case measure => simp [RowKit.intOf]; omega
    ·obtain rfl : k = nO := by omega
     have htk : os.take k = os := List.take_of_length_le (by rw [HNO.out]; exact Nat.le_refl _)
     rw [htk] at HMX
     have HE3 : Hid (startX l nm ms = if uniqX r = true then some (.mk sp nm.2 r [] [], l') else none) := hid (by have := HE2.out; rw [HMX.out] at this; exact this)
     obtain ⟨aA, ac, hav, hac, hRr⟩ := RC.of_own HSt.out.row (fun b => w.heap.size ≤ b) (fun b hb => by have h1 := (World.ownsRow.lt HSt.out.row b hb).1; have h2 := HSt.out.ltn; show w.heap.size ≤ b; omega)
     have hra : SmallA r := attrX_small HLS.out HOS.out HMX.out
     have hrl : r.length ≤ 1000000 := by have := mapX_len HMX.out; have := HNO.out; have := HNM.out; omega
     have HU : Hid (∀ W, RC W (fun b => w.heap.size ≤ b) aA (cA r) → Calls Tryz.prog 91 #[.slice aA r.length ac] W (fun e w' => e = .returned (.bool (uniqX r)) ∧ Below W.heap.size W w')) := hid (fun W hW => unique_any hW hra hrl)
     obtain ⟨u, hu⟩ : ∃ u, uniqX r = u := ⟨_, rfl⟩
     rw [hu] at HU HE3
     subst hav
     have HRr := hid hRr
     clear htk hra hrl hu hRr
     have hn := HSt.out.node
     obtain ⟨N, hN⟩ : ∃ N, w.heap.size + 1 = N := ⟨_, rfl⟩
     rw [hN] at hn hNw hNS HSt
     have HA : Hid (∀ W, ESt S S' cap' N X l' l w sp nm.2 os oA r (.slice aA r.length ac) W → (fun W => (W.cell? ⟨N, 0, none⟩ = some (sV sp) ∧ W.cell? ⟨N, 1, none⟩ = some (sV nm.2) ∧ W.cell? ⟨N, 2, none⟩ = some (.slice aA r.length ac) ∧ W.cell? ⟨N, 3, none⟩ = some (.slice none 0 0) ∧ W.cell? ⟨N, 4, none⟩ = some (.string ⟨#[]⟩)) ∧ (W.frozen? ⟨N, 0, none⟩ = false ∧ W.frozen? ⟨N, 1, none⟩ = false ∧ W.frozen? ⟨N, 2, none⟩ = false ∧ W.frozen? ⟨N, 3, none⟩ = false ∧ W.frozen? ⟨N, 4, none⟩ = false) ∧ NodeS N sp nm.2 aA r.length ac W ∧ ESt S S' cap' N X l' l w sp nm.2 os oA r (.slice aA r.length ac) W) W) := hid (fun W hW => ⟨(nodeS hW.node).1, (nodeS hW.node).2, hW.node, hW⟩)
     go_wp2
     clear hN
     refine wp_region_held_drew (S := (fun W => (W.cell? ⟨N, 0, none⟩ = some (sV sp) ∧ W.cell? ⟨N, 1, none⟩ = some (sV nm.2) ∧ W.cell? ⟨N, 2, none⟩ = some (.slice aA r.length ac) ∧ W.cell? ⟨N, 3, none⟩ = some (.slice none 0 0) ∧ W.cell? ⟨N, 4, none⟩ = some (.string ⟨#[]⟩)) ∧ (W.frozen? ⟨N, 0, none⟩ = false ∧ W.frozen? ⟨N, 1, none⟩ = false ∧ W.frozen? ⟨N, 2, none⟩ = false ∧ W.frozen? ⟨N, 3, none⟩ = false ∧ W.frozen? ⟨N, 4, none⟩ = false) ∧ NodeS N sp nm.2 aA r.length ac W ∧ ESt S S' cap' N X l' l w sp nm.2 os oA r (.slice aA r.length ac) W)) (by kernel_rfl) (HA.out _ (HSt.out.below (below_drewN (Below.refl _ _) 1))) (fun hHeld => ?_)
     refine wpAnyH_take (i := 0) (v := .agg #[sV sp, sV nm.2, .slice aA r.length ac, .slice none 0 0, .string ⟨#[]⟩]) rfl (by kernel_rfl) (by kernel_rfl) (by kernel_rfl) (fun _ _ _ h => h) (Or.inl ⟨by rfl, by intro w hSw; (try dsimp only at hSw); go_simp⟩) hHeld ?_
     change wpAnyH _ _ _ _ _ _ _ (Act.put _ (some 61) _) _
     try simp only [Act.put, zA8, zB8, zC8]
     refine wpAnyH_take (i := 1) (v := ScV S' l'.length cap') rfl (by kernel_rfl) (by kernel_rfl) (by kernel_rfl) (fun _ _ _ h => h) (Or.inl ⟨by rfl, by intro w hSw; (try dsimp only at hSw); go_simp⟩) hHeld ?_
     change wpAnyH _ _ _ _ _ _ _ (Act.put _ (some 62) _) _
     try simp only [Act.put, zA8, zB8, zC8]
     refine wpAnyH_take (i := 2) (v := .pointer (some ⟨N, 2, none⟩)) rfl (by kernel_rfl) (by kernel_rfl) (by kernel_rfl) (fun _ _ _ h => h) (Or.inl ⟨by rfl, by intro w hSw; (try dsimp only at hSw); go_simp⟩) hHeld ?_
     change wpAnyH _ _ _ _ _ _ _ (Act.put _ (some 63) _) _
     try simp only [Act.put, zA8, zB8, zC8]
     refine wpAnyH_take (i := 3) (v := .slice aA r.length ac) rfl (by kernel_rfl) (by kernel_rfl) (by kernel_rfl) (fun _ _ _ h => h) (Or.inl ⟨by rfl, by intro w hSw; (try dsimp only at hSw); go_simp⟩) hHeld ?_
     change wpAnyH _ _ _ _ _ _ _ (Act.put _ (some 64) _) _
     try simp only [Act.put, zA8, zB8, zC8]
     refine wpAnyH_ready (rs := [4]) (by kernel_rfl) (by simp) ?_
     refine AllReadyH.cons (o := { dst := some 65, op := .call { callee := .value (.func 91), args := #[.tmp 64], argTypes := _ }, type := _, pos := _, after := _, guard := none }) rfl (fun K hK => ?_) AllReadyH.nil
     go_simp
     (with_reducible refine (HU.out _ (hHeld.2.2.2.rowRC.mono (fun _ h => h.1))).mono ?_)
     rintro e w2 ⟨rfl, b2⟩
     refine hK.out _ _ (HA.out _ (hHeld.2.2.2.below b2)) (fun hHeld => ?_)
     clear hK K
     try simp only [Act.put, zA8, zB8, zC8]
     refine wpAnyH_ready (rs := [5]) (by kernel_rfl) (by simp) ?_
     refine AllReadyH.cons (o := { dst := none, op := .store TNo (.tmp 4) (.tmp 61), type := _, pos := _, after := _, guard := none }) rfl (fun K hK => ?_) AllReadyH.nil
     obtain ⟨⟨q0, q1, q2, q3, q4⟩, ⟨p0, p1, p2, p3, p4⟩, hq, hE2⟩ := hHeld
     go_simp
     refine hK.out _ _ (HA.out _ hE2.set5) (fun hHeld => ?_)
     clear hK K q0 q1 q2 q3 q4 p0 p1 p2 p3 p4 hq hE2
     try simp only [Act.put, zA8, zB8, zC8]
     refine wpAnyH_take (i := 6) (v := ScV S' l'.length cap') rfl (by kernel_rfl) (by kernel_rfl) (by kernel_rfl) (fun _ _ _ h => h) (Or.inl ⟨by rfl, by intro w hSw; (try dsimp only at hSw); go_simp⟩) hHeld ?_
     change wpAnyH _ _ _ _ _ _ _ (Act.put _ (some 5) _) _
     try simp only [Act.put, zA8, zB8, zC8]
     refine wpAnyH_take (i := 7) (v := .bool u) rfl (by kernel_rfl) (by kernel_rfl) (by kernel_rfl) (fun _ _ _ h => h) (Or.inl ⟨by rfl, by intro w hSw; (try dsimp only at hSw); go_simp⟩) hHeld ?_
     change wpAnyH _ _ _ _ _ _ _ (Act.put _ (some 6) _) _
     try simp only [Act.put, zA8, zB8, zC8]
     refine wpAnyH_done (by kernel_rfl) ?_ _
     have HHeld := hid hHeld
     clear hHeld
     go_wp2
     obtain ⟨⟨q0, q1, q2, q3, q4⟩, _, _, hE3⟩ := HHeld.out
     refine bodyPost_ret (v := .tuple #[.agg #[sV sp, sV nm.2, .slice aA r.length ac, .slice none 0 0, .string ⟨#[]⟩], ScV S' l'.length cap', .bool u]) ?_ rfl ?_
     ·simp [results, Tryz.results81, go_sem, q0, q1, q2, q3, q4]
     refine ⟨hE3.off, hE3.keep, ?_⟩
     cases u with
     | true =>
      rw [HE3.out, if_pos rfl]
      exact ⟨S', cap', aA, ac, rfl, hE3.sc, hE3.at', hE3.rowRC, rfl, rfl⟩
     | false =>
      rw [HE3.out, if_neg (by decide)]
      exact ⟨sp, nm.2, [], aA, none, r.length, ac, 0, 0, _, rfl, _, _, _, rfl⟩
mutual
/-- A value of Go that reads al this node, its rows in blocks of T. -/
def XR (w : World) (T : Nat → Prop) : XV → Value → Prop
 | .mk sp nm al ks tx, v => ∃ aA ac kA kc, v = .agg #[sV sp, sV nm, .slice aA al.length ac, .slice kA ks.length kc, sV tx] ∧ RC w T aA (cA al) ∧ (0 < ks.length → ∃ b off, kA = some ⟨b, off, none⟩ ∧ T b ∧ b < w.heap.size ∧ XRl w T ks b off)
/-- Cells that read al these nodes. -/
def XRl (w : World) (T : Nat → Prop) : List XV → Nat → Nat → Prop
 | [], _, _ => True
 | v :: l, b, off => (∃ x0 x1 x2 x3 x4, w.cell? ⟨b, off, none⟩ = some x0 ∧ w.cell? ⟨b, off + 1, none⟩ = some x1 ∧ w.cell? ⟨b, off + 2, none⟩ = some x2 ∧ w.cell? ⟨b, off + 3, none⟩ = some x3 ∧ w.cell? ⟨b, off + 4, none⟩ = some x4 ∧ XR w T v (.agg #[x0, x1, x2, x3, x4])) ∧ XRl w T l b (off + 5)
end
mutual
theorem XR.off {F T : Nat → Prop} {w w' : World} (ho : Off F w w') (hF : ∀ b, T b → ¬ F b) : ∀ (v : XV) (x : Value), XR w T v x → XR w' T v x
 | .mk sp nm al ks tx, x, h => by
  rw [XR] at h ⊢
  obtain ⟨aA, ac, kA, kc, e, h1, h2⟩ := h
  refine ⟨aA, ac, kA, kc, e, h1.off ho hF, fun h0 => ?_⟩
  obtain ⟨b, off, e2, ht, hb, hl⟩ := h2 h0
  exact ⟨b, off, e2, ht, Nat.lt_of_lt_of_le hb ho.size, XRl.off ho hF ks b off (hF b ht) hl⟩
theorem XRl.off {F T : Nat → Prop} {w w' : World} (ho : Off F w w') (hF : ∀ b, T b → ¬ F b) : ∀ (l : List XV) (b off : Nat), ¬ F b → XRl w T l b off → XRl w' T l b off
 | [], b, off, _, _ => by rw [XRl]; trivial
 | v :: l, b, off, hb, h => by
  rw [XRl] at h ⊢
  obtain ⟨⟨x0, x1, x2, x3, x4, c0, c1, c2, c3, c4, hv⟩, hl⟩ := h
  exact ⟨⟨x0, x1, x2, x3, x4, ho.cell c0 hb, ho.cell c1 hb, ho.cell c2 hb, ho.cell c3 hb, ho.cell c4 hb, XR.off ho hF v _ hv⟩, XRl.off ho hF l b (off + 5) hb hl⟩
end
theorem XR.below {T : Nat → Prop} {w w' : World} {v : XV} {x : Value} (h : XR w T v x) (hb : Below w.heap.size w w') : XR w' T v x := XR.off (Off.of_below hb) (fun _ _ h => h) v x h
mutual
theorem XR.mono {T T' : Nat → Prop} {w : World} (hT : ∀ b, T b → T' b) : ∀ (v : XV) (x : Value), XR w T v x → XR w T' v x
 | .mk sp nm al ks tx, x, h => by
  rw [XR] at h ⊢
  obtain ⟨aA, ac, kA, kc, e, h1, h2⟩ := h
  refine ⟨aA, ac, kA, kc, e, h1.mono hT, fun h0 => ?_⟩
  obtain ⟨b, off, e2, ht, hb, hl⟩ := h2 h0
  exact ⟨b, off, e2, hT b ht, hb, XRl.mono hT ks b off hl⟩
theorem XRl.mono {T T' : Nat → Prop} {w : World} (hT : ∀ b, T b → T' b) : ∀ (l : List XV) (b off : Nat), XRl w T l b off → XRl w T' l b off
 | [], b, off, _ => by rw [XRl]; trivial
 | v :: l, b, off, h => by
  rw [XRl] at h ⊢
  obtain ⟨⟨x0, x1, x2, x3, x4, c0, c1, c2, c3, c4, hv⟩, hl⟩ := h
  exact ⟨⟨x0, x1, x2, x3, x4, c0, c1, c2, c3, c4, XR.mono hT v _ hv⟩, XRl.mono hT l b (off + 5) hl⟩
end
theorem XRl.at {w : World} {T : Nat → Prop} : ∀ {l : List XV} {b off : Nat}, XRl w T l b off → ∀ j (h : j < l.length), ∃ x0 x1 x2 x3 x4, w.cell? ⟨b, off + j * 5, none⟩ = some x0 ∧ w.cell? ⟨b, off + j * 5 + 1, none⟩ = some x1 ∧ w.cell? ⟨b, off + j * 5 + 2, none⟩ = some x2 ∧ w.cell? ⟨b, off + j * 5 + 3, none⟩ = some x3 ∧ w.cell? ⟨b, off + j * 5 + 4, none⟩ = some x4 ∧ XR w T l[j] (.agg #[x0, x1, x2, x3, x4])
 | [], b, off, _, j, h => absurd h (Nat.not_lt_zero _)
 | v :: l, b, off, h, 0, _ => by
  rw [XRl] at h
  simpa using h.1
 | v :: l, b, off, h, j + 1, hj => by
  rw [XRl] at h
  have := XRl.at h.2 j (by simpa using hj)
  have e : off + 5 + j * 5 = off + (j + 1) * 5 := by omega
  rw [e] at this
  exact this
theorem xr_one {w : World} {T : Nat → Prop} {v : XV} {x : Value} (h : XR w T v x) : ∃ aA ac kA kc, x = .agg #[sV v.space, sV v.name, .slice aA v.attrs.length ac, .slice kA v.kids.length kc, sV v.text] := by
 obtain ⟨sp, nm, al, ks, tx⟩ := v
 rw [XR] at h
 obtain ⟨aA, ac, kA, kc, e, _, _⟩ := h
 exact ⟨_, _, _, _, e⟩
def XRs (w : World) (T : Nat → Prop) : List XV → List Value → Prop
 | [], cs => cs = []
 | v :: l, cs => ∃ x0 x1 x2 x3 x4 r, cs = x0 :: x1 :: x2 :: x3 :: x4 :: r ∧ XR w T v (.agg #[x0, x1, x2, x3, x4]) ∧ XRs w T l r
theorem XRs.off {F T : Nat → Prop} {w w' : World} (ho : Off F w w') (hF : ∀ b, T b → ¬ F b) : ∀ (l : List XV) (cs : List Value), XRs w T l cs → XRs w' T l cs
 | [], _, h => h
 | v :: l, cs, h => by
  obtain ⟨x0, x1, x2, x3, x4, r, e, h1, h2⟩ := h
  exact ⟨x0, x1, x2, x3, x4, r, e, XR.off ho hF v _ h1, XRs.off ho hF l r h2⟩
theorem XRs.mono {T T' : Nat → Prop} {w : World} (hT : ∀ b, T b → T' b) : ∀ (l : List XV) (cs : List Value), XRs w T l cs → XRs w T' l cs
 | [], _, h => h
 | v :: l, cs, h => by
  obtain ⟨x0, x1, x2, x3, x4, r, e, h1, h2⟩ := h
  exact ⟨x0, x1, x2, x3, x4, r, e, XR.mono hT v _ h1, XRs.mono hT l r h2⟩
theorem XRs.len {w : World} {T : Nat → Prop} : ∀ (l : List XV) (cs : List Value), XRs w T l cs → cs.length = l.length * 5
 | [], _, h => by rw [show _ = [] from h]; rfl
 | v :: l, cs, h => by
  obtain ⟨x0, x1, x2, x3, x4, r, e, _, h2⟩ := h
  have := XRs.len l r h2
  rw [e]
  simp only [List.length_cons]
  omega
theorem XRs.snoc {w : World} {T : Nat → Prop} {v : XV} {x0 x1 x2 x3 x4 : Value} (hv : XR w T v (.agg #[x0, x1, x2, x3, x4])) : ∀ (l : List XV) (cs : List Value), XRs w T l cs → XRs w T (l ++ [v]) (cs ++ [x0, x1, x2, x3, x4])
 | [], cs, h => by rw [show cs = [] from h]; exact ⟨x0, x1, x2, x3, x4, [], rfl, hv, rfl⟩
 | a :: l, cs, h => by
  obtain ⟨y0, y1, y2, y3, y4, r, e, h1, h2⟩ := h
  exact ⟨y0, y1, y2, y3, y4, r ++ [x0, x1, x2, x3, x4], by rw [e]; rfl, h1, XRs.snoc hv l r h2⟩
theorem xrl_of {w : World} {T : Nat → Prop} {b : Nat} : ∀ (l : List XV) (cs : List Value) (off : Nat), XRs w T l cs → (∀ j u, cs[j]? = some u → w.cell? ⟨b, off + j, none⟩ = some u) → XRl w T l b off
 | [], _, _, _, _ => by rw [XRl]; trivial
 | v :: l, cs, off, h, hc => by
  obtain ⟨x0, x1, x2, x3, x4, r, rfl, h1, h2⟩ := h
  rw [XRl]
  refine ⟨⟨x0, x1, x2, x3, x4, hc 0 x0 rfl, hc 1 x1 rfl, hc 2 x2 rfl, hc 3 x3 rfl, hc 4 x4 rfl, h1⟩, xrl_of l r (off + 5) h2 (fun j u hj => ?_)⟩
  have := hc (j + 5) u hj
  rw [show off + 5 + j = off + (j + 5) by omega]
  exact this
def RN8 (w : World) (T : Nat → Prop) (A : Option Addr) (ks : List XV) : Prop := 0 < ks.length → ∃ b off, A = some ⟨b, off, none⟩ ∧ T b ∧ b < w.heap.size ∧ XRl w T ks b off
theorem RN8.of_own {w : World} {B n : Nat} {T T' : Nat → Prop} {kv : Value} {ks : List XV} {cs : List Value} (h : w.ownsRow B TNo 5 kv n cs) (hn : n = ks.length) (hs : XRs w T ks cs) (hT : ∀ b, T b → T' b) (hk : ∀ b, kv.ownBlock = some b → T' b) : ∃ A c, kv = .slice A n c ∧ RN8 w T' A ks := by
 subst hn
 have hk2 := hk
 rcases h.2 with ⟨e, hn⟩ | ⟨g, cap, cur, e, hb, hh, hc, _⟩
 ·exact ⟨none, 0, by rw [e, hn], fun h0 => by omega⟩
 ·subst e
  refine ⟨_, cap, rfl, fun _ => ⟨g, 0, rfl, hk g rfl, (World.ownsRow.lt h g rfl).2, xrl_of ks cs 0 (XRs.mono hT ks cs hs) (fun j u hj => ?_)⟩⟩
  have hcl := World.ownsRow.cells h (g := g) rfl j u hj
  rw [Addr.add_mid, Nat.zero_add] at hcl
  rw [Nat.zero_add]
  exact hcl
theorem XR.of {w : World} {T : Nat → Prop} {sp nm tx : Bt} {al : List XA} {ks : List XV} {aA kA : Option Addr} {ac kc : Nat} (ha : RC w T aA (cA al)) (hk : RN8 w T kA ks) : XR w T (.mk sp nm al ks tx) (.agg #[sV sp, sV nm, .slice aA al.length ac, .slice kA ks.length kc, sV tx]) := by
 rw [XR]
 exact ⟨aA, ac, kA, kc, rfl, ha, hk⟩
theorem XR.attrs {w : World} {T : Nat → Prop} {sp nm tx : Bt} {al : List XA} {ks : List XV} {x : Value} (h : XR w T (.mk sp nm al ks tx) x) : ∃ aA ac kA kc, x = .agg #[sV sp, sV nm, .slice aA al.length ac, .slice kA ks.length kc, sV tx] ∧ RC w T aA (cA al) ∧ RN8 w T kA ks := by
 rw [XR] at h
 exact h
theorem xr_text (w : World) (T : Nat → Prop) (t : Bt) : XR w T (textX t) (.agg #[.string ⟨#[]⟩, .string ⟨#[]⟩, .slice none 0 0, .slice none 0 0, sV t]) :=
 XR.of (aA := none) (kA := none) (ac := 0) (kc := 0) (RC.nil _ _ _) (fun h => absurd h (Nat.lt_irrefl _))
theorem xr_zero (w : World) (T : Nat → Prop) : XR w T zeroX (.agg #[.string ⟨#[]⟩, .string ⟨#[]⟩, .slice none 0 0, .slice none 0 0, .string ⟨#[]⟩]) := xr_text w T []
end Go.Proofs.YtklcjimmbkpbdaaGreatDoor
