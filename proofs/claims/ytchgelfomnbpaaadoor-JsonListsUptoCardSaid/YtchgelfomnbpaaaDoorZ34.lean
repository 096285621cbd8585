/-
  Values of JSON, plain: how long what is written is; members one by one. No conditions.
-/
import Derived.Test.YtchgelfomnbpaaaDoorZ25
namespace Go.Proofs.YtchgelfomnbpaaaDoor
open Go.Lib

/-- A member as it is written. -/
def memJ (obj : Bool) (ns : List Bt) (l : List JV) (j : Nat) (h : j < l.length) : Bt := (if obj then jqL (ns.getD j []) ++ [58] else []) ++ printJ l[j]
theorem getD_drop (ns : List Bt) (j : Nat) : (ns.drop 1).getD j [] = ns.getD (j + 1) [] := by
  cases ns with
  | nil => rfl
  | cons a r => rfl
theorem headD_get (ns : List Bt) : ns.headD [] = ns.getD 0 [] := by
  cases ns with
  | nil => rfl
  | cons a r => rfl
theorem rest_take (obj : Bool) : ∀ (l : List JV) (ns : List Bt) (j : Nat) (h : j < l.length), restJ obj ns (l.take (j + 1)) = restJ obj ns (l.take j) ++ 44 :: memJ obj ns l j h
  | v :: l, ns, 0, _ => by
    simp only [List.take_succ_cons, List.take_zero, restJ, memJ, List.nil_append, List.append_nil, List.getElem_cons_zero, headD_get]
  | v :: l, ns, j + 1, h => by
    have := rest_take obj l (ns.drop 1) j (by simpa using h)
    rw [List.take_succ_cons, List.take_succ_cons, restJ, restJ, this]
    unfold memJ
    simp only [List.getElem_cons_succ, getD_drop, List.append_assoc, List.cons_append]
theorem join_take (obj : Bool) (l : List JV) (ns : List Bt) (j : Nat) (h : j < l.length) : joinJ obj ns (l.take (j + 1)) = joinJ obj ns (l.take j) ++ ((if j = 0 then [] else [44]) ++ memJ obj ns l j h) := by
  cases l with
  | nil => exact absurd h (Nat.not_lt_zero _)
  | cons v l =>
    cases j with
    | zero => simp only [List.take_succ_cons, List.take_zero, joinJ, restJ, memJ, List.nil_append, List.append_nil, List.getElem_cons_zero, headD_get, if_pos]
    | succ j =>
      have := rest_take obj l (ns.drop 1) j (by simpa using h)
      rw [List.take_succ_cons, List.take_succ_cons, joinJ, joinJ, this, if_neg (Nat.succ_ne_zero j)]
      unfold memJ
      simp only [List.getElem_cons_succ, getD_drop, List.append_assoc, List.cons_append, List.nil_append]
theorem jsn_len : ∀ zs : List Int, (jsn zs).length ≤ 6 * zs.length
  | [] => by simp [jsn]
  | z :: r => by
    have h1 := jsn_len r
    have h2 := jP_length z
    rw [jsn_cons, List.length_append, List.length_cons]
    omega
theorem jq_len (x : Bt) : (jqL x).length ≤ 24 * x.length + 2 := by
  unfold jqL
  have h1 := enc_length_le (jsn (pts x))
  have h2 := jsn_len (pts x)
  have h3 := pts_length_le x
  simp only [List.length_append, List.length_cons, List.length_nil]
  omega
mutual
theorem print_len : ∀ v : JV, (printJ v).length + 6 ≤ 32 * wJ v
  | .mk k t ns l => by
    have h1 := jq_len t
    have h2 := join_len false ns l
    have h3 := join_len true ns l
    rw [printJ, wJ]
    split
    · show 4 + 6 ≤ _; omega
    split
    · show 5 + 6 ≤ _; omega
    split
    · show 4 + 6 ≤ _; omega
    split
    · omega
    split
    · omega
    split <;> (simp only [List.length_cons, List.length_append, List.length_nil]; omega)
theorem join_len : ∀ (obj : Bool) (ns : List Bt) (l : List JV), (joinJ obj ns l).length ≤ 32 * nsW ns + 32 * wsJ l
  | _, _, [] => by rw [joinJ]; simp
  | obj, ns, v :: l => by
    have h1 := print_len v
    have h2 := rest_len obj (ns.drop 1) l
    have h3 := jq_len (ns.headD [])
    rw [joinJ, wsJ]
    cases ns with
    | nil =>
      cases obj <;> (simp only [List.length_append, List.length_cons, List.length_nil, List.headD_nil, List.drop_nil, nsW, if_true, Bool.false_eq_true, if_false] at *; omega)
    | cons a r =>
      cases obj <;> (simp only [List.length_append, List.length_cons, List.length_nil, List.headD_cons, List.drop_succ_cons, List.drop_zero, nsW, if_true, Bool.false_eq_true, if_false] at *; omega)
theorem rest_len : ∀ (obj : Bool) (ns : List Bt) (l : List JV), (restJ obj ns l).length ≤ 32 * nsW ns + 32 * wsJ l
  | _, _, [] => by rw [restJ]; simp
  | obj, ns, v :: l => by
    have h1 := print_len v
    have h2 := rest_len obj (ns.drop 1) l
    have h3 := jq_len (ns.headD [])
    rw [restJ, wsJ]
    cases ns with
    | nil =>
      cases obj <;> (simp only [List.length_append, List.length_cons, List.length_nil, List.headD_nil, List.drop_nil, nsW, if_true, Bool.false_eq_true, if_false] at *; omega)
    | cons a r =>
      cases obj <;> (simp only [List.length_append, List.length_cons, List.length_nil, List.headD_cons, List.drop_succ_cons, List.drop_zero, nsW, if_true, Bool.false_eq_true, if_false] at *; omega)
end
end Go.Proofs.YtchgelfomnbpaaaDoor
