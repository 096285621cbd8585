/-
  Links: the document's one form in plain functions; it is canonL. No program text.
-/
import Derived.Test.YtlgggibdgfdmhaaGreatDoorQF
import Derived.Test.YtlgggibdgfdmhaaGreatDoorPB
namespace Go.Proofs.YtlgggibdgfdmhaaGreatDoor
open Go.RowKit
open Go.Lib

def rcanonL (l : Lk) : Lk := ⟨smallL l.scheme, smallL l.host, cportL (smallL l.scheme) l.port, cpathL l.path, cqueryL l.query, [], !(cqueryL l.query).isEmpty, false⟩
theorem rcanon_same {p : Lk} (h : WF p) : rcanonL p = canonL p := by
  unfold rcanonL canonL
  cases hq : p.hasQ with
  | true => rw [Bool.true_and]
  | false =>
    have e : cqueryL p.query = [] := by rw [h.noQ hq]; unfold cqueryL; rw [normL_nil]; rfl
    rw [e]; rfl
theorem utm_take (x : List UInt8) : utmB x = (x.take 4 == [117, 116, 109, 95]) := by
  unfold utmB
  match x with
  | [] => rfl
  | [a] => simp [List.isPrefixOf]
  | [a, b] => simp [List.isPrefixOf]
  | [a, b, c] => simp [List.isPrefixOf]
  | a :: b :: c :: d :: r =>
    rw [Bool.eq_iff_iff]
    simp [List.isPrefixOf]
    constructor <;> (rintro ⟨h1, h2, h3, h4⟩; exact ⟨h1.symm, h2.symm, h3.symm, h4.symm⟩)
theorem join_snoc (c : UInt8) (x : List UInt8) : ∀ xs : List (List UInt8), xs ≠ [] → joinP c (xs ++ [x]) = joinP c xs ++ [c] ++ x
  | [], h => absurd rfl h
  | [y], _ => by simp [joinP]
  | y :: z :: r, _ => by
    have ih := join_snoc c x (z :: r) (by simp)
    rw [List.cons_append, joinP_cons c y (by simp), ih, joinP_cons c y (by simp)]
    simp [List.append_assoc]
theorem mem_join (c : UInt8) : ∀ (xs : List (List UInt8)) (x : List UInt8), x ∈ xs → x.length ≤ (joinP c xs).length
  | [], _, h => absurd h (by simp)
  | [y], x, h => by
    have : x = y := by simpa using h
    rw [this]; exact Nat.le_refl _
  | y :: z :: r, x, h => by
    rw [joinP_cons c y (by simp), List.length_append, List.length_cons]
    rcases List.mem_cons.1 h with h | h
    · rw [h]; omega
    · have := mem_join c (z :: r) x h; omega
theorem split_mem (c : UInt8) (l : List UInt8) (x : List UInt8) (h : x ∈ splitP c l) : x.length ≤ l.length := by
  have := mem_join c _ x h
  rwa [joinP_split] at this
theorem keep_snoc (xs : List (List UInt8)) (k : Nat) (h : k < xs.length) : (xs.take (k + 1)).filter (fun x => !utmB x) = (xs.take k).filter (fun x => !utmB x) ++ (if utmB xs[k] then [] else [xs[k]]) := by
  rw [List.take_succ_eq_append_getElem h, List.filter_append]
  cases hu : utmB xs[k] <;> simp [hu]
theorem cport_80 (n : Nat) : cportL [104, 116, 116, 112] n = if n = 80 then 0 else n := by
  unfold cportL; split <;> rename_i h
  · simp at h; rw [if_pos h]
  · simp at h; rw [if_neg h]
theorem cport_443 (n : Nat) : cportL [104, 116, 116, 112, 115] n = if n = 443 then 0 else n := by
  unfold cportL; split <;> rename_i h
  · simp at h; rw [if_pos h]
  · simp at h; rw [if_neg h]
theorem cport_no (X : List UInt8) (n : Nat) (h1 : X ≠ [104, 116, 116, 112]) (h2 : X ≠ [104, 116, 116, 112, 115]) : cportL X n = n := by
  unfold cportL; rw [if_neg (fun h => h.elim (fun h => h1 h.1) (fun h => h2 h.1))]
theorem add_big (a b c : List UInt8) (e : a ++ b = c) (h : a.length + b.length ≤ 1000000000000) (W : World) : (Op.stringOp .add (bs a) (bs b)).run Tryz.prog W = .ok (.string (bs c)) W := by
  rw [run_string_add_sum W _ _ (by rw [bs_size, bs_size]; omega), bs_cat, e]
def COut (p : Lk) (w : World) (e : Ending) (w' : World) : Prop := e = .returned (lkV (rcanonL p)) ∧ Below w.heap.size w w'
theorem COut.mk {p : Lk} {w w' : World} {X Y : List UInt8} {N : Nat} {P Q : List UInt8} {b : Bool} (hX : smallL p.scheme = X) (hY : smallL p.host = Y) (hN : cportL X p.port = N) (hP : cpathL p.path = P) (hQ : cqueryL p.query = Q) (hb : (!Q.isEmpty) = b) (B : Below w.heap.size w w') :
    COut p w (.returned (.agg #[.string (bs X), .string (bs Y), .int .i64 N, .string (bs P), .string (bs Q), .string ⟨#[]⟩, .bool b, .bool false])) w' := by
  subst hX hY hN hP hQ hb; exact ⟨rfl, B⟩
/-- The link handed over, the result's cell, the one that is made. -/
structure CS (w0 : World) (p : Lk) (sc ho : ByteArray) (n : Int) (pa q f : ByteArray) (x y : Bool) (w : World) : Prop where
  a : LB w0.heap.size (bs p.scheme) (bs p.host) p.port (bs p.path) (bs p.query) (bs p.frag) p.hasQ p.hasF w
  r : LZ (w0.heap.size + 1) w
  o : LB (w0.heap.size + 2) sc ho n pa q f x y w
  b : Below w0.heap.size w0 w
section
variable {w0 : World} {p : Lk} {a h : ByteArray} {n : Int} {pa q f : ByteArray} {x y : Bool} {w w' : World}
theorem CS.call (H : CS w0 p a h n pa q f x y w) (hb : Below w.heap.size w w') : CS w0 p a h n pa q f x y w' :=
  ⟨LB.below H.a hb, LB.below H.r hb, LB.below H.o hb, H.b.trans (hb.mono H.b.size)⟩
theorem CS.up (H : CS w0 p a h n pa q f x y w) {cs : Array Value} {a' h' : ByteArray} {n' : Int} {p' q' f' : ByteArray} {x' y' : Bool} (hb : Blk (w0.heap.size + 2) (.cells cs 24 (0, 0)) w') (g : w.grownBy w' (some (w0.heap.size + 2))) (e : cs = lcs a' h' n' p' q' f' x' y') : CS w0 p a' h' n' p' q' f' x' y' w' :=
  ⟨LB.grown H.a g (by simp), LB.grown H.r g (by simp), by subst e; exact hb, H.b.grown g H.b.size (fun k hk => by injection hk with hk; omega)⟩
theorem CS.out (H : CS w0 p a h n pa q f x y w) (g : w.grownBy w' (some (w0.heap.size + 1))) : Below w0.heap.size w0 w' :=
  H.b.grown g H.b.size (fun k hk => by injection hk with hk; omega)
end
theorem cs_new (w : World) (p : Lk) (w1 : World) (b1 : Below (((w.alloc (.cells #[.string (bs p.scheme), .string (bs p.host), .int .i64 p.port, .string (bs p.path), .string (bs p.query), .string (bs p.frag), .bool p.hasQ, .bool p.hasF] 24)).alloc (.cells #[.string ⟨#[]⟩, .string ⟨#[]⟩, .int .i64 0, .string ⟨#[]⟩, .string ⟨#[]⟩, .string ⟨#[]⟩, .bool false, .bool false] 24)).alloc (.cells #[.string ⟨#[]⟩, .string ⟨#[]⟩, .int .i64 0, .string ⟨#[]⟩, .string ⟨#[]⟩, .string ⟨#[]⟩, .bool false, .bool false] 24)).heap.size (((w.alloc (.cells #[.string (bs p.scheme), .string (bs p.host), .int .i64 p.port, .string (bs p.path), .string (bs p.query), .string (bs p.frag), .bool p.hasQ, .bool p.hasF] 24)).alloc (.cells #[.string ⟨#[]⟩, .string ⟨#[]⟩, .int .i64 0, .string ⟨#[]⟩, .string ⟨#[]⟩, .string ⟨#[]⟩, .bool false, .bool false] 24)).alloc (.cells #[.string ⟨#[]⟩, .string ⟨#[]⟩, .int .i64 0, .string ⟨#[]⟩, .string ⟨#[]⟩, .string ⟨#[]⟩, .bool false, .bool false] 24)) w1) : CS w p ⟨#[]⟩ ⟨#[]⟩ 0 ⟨#[]⟩ ⟨#[]⟩ ⟨#[]⟩ false false w1 := by
  have h1 : LB w.heap.size (bs p.scheme) (bs p.host) p.port (bs p.path) (bs p.query) (bs p.frag) p.hasQ p.hasF (w.alloc (.cells #[.string (bs p.scheme), .string (bs p.host), .int .i64 p.port, .string (bs p.path), .string (bs p.query), .string (bs p.frag), .bool p.hasQ, .bool p.hasF] 24)) := Blk.new _ w
  have h2 : LZ (w.alloc (.cells #[.string (bs p.scheme), .string (bs p.host), .int .i64 p.port, .string (bs p.path), .string (bs p.query), .string (bs p.frag), .bool p.hasQ, .bool p.hasF] 24)).heap.size ((w.alloc (.cells #[.string (bs p.scheme), .string (bs p.host), .int .i64 p.port, .string (bs p.path), .string (bs p.query), .string (bs p.frag), .bool p.hasQ, .bool p.hasF] 24)).alloc (.cells #[.string ⟨#[]⟩, .string ⟨#[]⟩, .int .i64 0, .string ⟨#[]⟩, .string ⟨#[]⟩, .string ⟨#[]⟩, .bool false, .bool false] 24)) := Blk.new _ _
  have h3 : LZ ((w.alloc (.cells #[.string (bs p.scheme), .string (bs p.host), .int .i64 p.port, .string (bs p.path), .string (bs p.query), .string (bs p.frag), .bool p.hasQ, .bool p.hasF] 24)).alloc (.cells #[.string ⟨#[]⟩, .string ⟨#[]⟩, .int .i64 0, .string ⟨#[]⟩, .string ⟨#[]⟩, .string ⟨#[]⟩, .bool false, .bool false] 24)).heap.size (((w.alloc (.cells #[.string (bs p.scheme), .string (bs p.host), .int .i64 p.port, .string (bs p.path), .string (bs p.query), .string (bs p.frag), .bool p.hasQ, .bool p.hasF] 24)).alloc (.cells #[.string ⟨#[]⟩, .string ⟨#[]⟩, .int .i64 0, .string ⟨#[]⟩, .string ⟨#[]⟩, .string ⟨#[]⟩, .bool false, .bool false] 24)).alloc (.cells #[.string ⟨#[]⟩, .string ⟨#[]⟩, .int .i64 0, .string ⟨#[]⟩, .string ⟨#[]⟩, .string ⟨#[]⟩, .bool false, .bool false] 24)) := Blk.new _ _
  have e : (w.alloc (.cells #[.string (bs p.scheme), .string (bs p.host), .int .i64 p.port, .string (bs p.path), .string (bs p.query), .string (bs p.frag), .bool p.hasQ, .bool p.hasF] 24)).heap.size = w.heap.size + 1 := by simp
  have e2 : ((w.alloc (.cells #[.string (bs p.scheme), .string (bs p.host), .int .i64 p.port, .string (bs p.path), .string (bs p.query), .string (bs p.frag), .bool p.hasQ, .bool p.hasF] 24)).alloc (.cells #[.string ⟨#[]⟩, .string ⟨#[]⟩, .int .i64 0, .string ⟨#[]⟩, .string ⟨#[]⟩, .string ⟨#[]⟩, .bool false, .bool false] 24)).heap.size = w.heap.size + 2 := by simp
  rw [e] at h2
  rw [e2] at h3
  refine ⟨LB.below (Blk.alloc (Blk.alloc h1 _) _) b1, LB.below (Blk.alloc h2 _) b1, LB.below h3 b1, ?_⟩
  exact (((((Below.refl _ _).alloc (Nat.le_refl _) _).alloc (by simp) _).alloc (by simp; omega) _).trans (b1.mono (by simp; omega)))
theorem ownS_at {w : World} {base : Nat} {v : Value} {ws : List (List UInt8)} (h : OwnS w base v ws) (hne : ws ≠ []) : ∃ g cap, v = .slice (some ⟨g, 0, none⟩) ws.length cap ∧ base ≤ g ∧ g < w.heap.size ∧ ∀ j x, (ws.map bs)[j]? = some x → w.cell? ⟨g, 0 + j, none⟩ = some (.string x) := by
  rcases ownS_form h with ⟨_, h2⟩ | ⟨g, cap, h1, h2, h3, h4⟩
  · exact absurd h2 hne
  · refine ⟨g, cap, h1, ?_, h3, h4⟩
    exact (World.ownsRow.lt h g (by rw [h1]; rfl)).1
end Go.Proofs.YtlgggibdgfdmhaaGreatDoor
