/-
  Of the proofs of layer 7 (values of JSON): the parts EH EI. No conditions.
-/
import Derived.Test.YtchgelfomnbpaaaDoorZ18
namespace Go.Proofs.YtchgelfomnbpaaaDoor
open Go.RowKit
open Go.Lib

/-- The text that a name stands for; empty: none. -/
def namedL (l : List UInt8) : List UInt8 := if nameP l = -1 then [] else encodeRune (nameP l)
def NamedOut (l : List UInt8) (w : World) (e : Ending) (w' : World) : Prop := e = .returned (.string ⟨(namedL l).toArray⟩) ∧ Below w.heap.size w w'
theorem NamedOut.mk {l r : List UInt8} {w w' : World} (h : namedL l = r) (hb : Below w.heap.size w w') : NamedOut l w (.returned (.string ⟨r.toArray⟩)) w' := by subst h; exact ⟨rfl, hb⟩
theorem numI_bd (l : List UInt8) : -1 ≤ numI l ∧ numI l ≤ 268435455 := by
  have key : ∀ (base : Int) (m : Nat) (ds : List UInt8), 0 ≤ base → base ≤ 16 → m ≤ 7 → -1 ≤ numP base m ds ∧ numP base m ds ≤ 268435455 := by
    intro base m ds h0 h1 h2
    unfold numP
    split
    · omega
    · rename_i h
      have h3 : ds.length ≤ m := by
        apply Decidable.byContradiction; intro hh; exact h (.inr (.inl (by omega)))
      have h4 : ds.all (isD base) = true := by
        cases hh : ds.all (isD base) with
        | true => rfl
        | false => exact absurd (.inr (.inr hh)) h
      have := valD_bd base h0 h1 ds (by omega) h4
      omega
  unfold numI
  split
  · unfold sharp
    split
    · exact key 16 6 _ (by omega) (by omega) (by omega)
    · exact key 10 7 _ (by omega) (by omega) (by omega)
  · omega
theorem nameP_num (l : List UInt8) (h1 : l ≠ [97, 109, 112]) (h2 : l ≠ [108, 116]) (h3 : l ≠ [103, 116]) (h4 : l ≠ [113, 117, 111, 116]) (h5 : l ≠ [97, 112, 111, 115]) : nameP l = chk (numI l) := by
  unfold nameP
  rw [if_neg h1, if_neg h2, if_neg h3, if_neg h4, if_neg h5]
  unfold numI
  split
  · rfl
  · rfl
theorem namedL_low (l : List UInt8) (h : nameP l = chk (numI l)) (hn : numI l < 1) : namedL l = [] := by
  unfold namedL; rw [h, if_pos]; unfold chk; rw [if_neg (by omega)]
theorem namedL_num (l : List UInt8) (h : nameP l = chk (numI l)) (hn : 1 ≤ numI l) : namedL l = if [numI l].all isPt = true then enc [numI l] else [] := by
  unfold namedL
  rw [h]
  cases hp : isPt (numI l) with
  | true =>
    have hk : chk (numI l) = numI l := by unfold chk; rw [if_pos ⟨hn, hp⟩]
    rw [hk, if_neg (by omega)]; simp [hp, enc]
  | false =>
    have hk : chk (numI l) = -1 := by unfold chk; rw [if_neg (by rw [hp]; simp)]
    rw [hk, if_pos rfl]; simp [hp]
theorem bytes_eq (s : ByteArray) (l : List UInt8) (h : s.data.toList = l) : s = ⟨l.toArray⟩ := by
  subst h; rfl
theorem RI_one (w : World) (z : Int) : RI (w.alloc (.cells #[.int .i64 z] 3)) (some ⟨w.heap.size, 0, none⟩) [z] := fun _ =>
  ⟨w.heap.size, 0, rfl, by simp, fun j hj => by
    have : j = 0 := by simp at hj; omega
    subst this
    rw [World.cell?_alloc_at _ _ _ _ rfl]; rfl⟩
/-- What the ampersand ahead of these bytes stands for, and how many of them belong to it. -/
def refT (l : List UInt8) : List UInt8 := if (refQ l).1 < 0 then [38] else encodeRune (refQ l).1
def refW (l : List UInt8) : Nat := if (refQ l).1 < 0 then 0 else (refQ l).2 - 1
def RefOut (l : List UInt8) (w : World) (e : Ending) (w' : World) : Prop := e = .returned (.tuple #[.string ⟨(refT l).toArray⟩, .int .i64 (refW l)]) ∧ Below w.heap.size w w'
theorem RefOut.mk {l t : List UInt8} {n : Nat} {w w' : World} (h : refT l = t) (h2 : refW l = n) (hb : Below w.heap.size w w') : RefOut l w (.returned (.tuple #[.string ⟨t.toArray⟩, .int .i64 n])) w' := by subst h; subst h2; exact ⟨rfl, hb⟩
theorem ref_none (l : List UInt8) (h : (59 : UInt8) ∉ l.take 9) : refT l = [38] ∧ refW l = 0 := by
  unfold refT refW; rw [refQ_none l h]; exact ⟨rfl, rfl⟩
theorem nameP_neg (nm : List UInt8) : nameP nm = -1 ∨ 1 ≤ nameP nm := by
  unfold nameP
  repeat' split
  all_goals first | (exact .inl rfl) | (right; decide) | skip
  unfold chk
  split
  · right; omega
  · left; rfl
theorem ref_name (nm t : List UInt8) (h : (59 : UInt8) ∉ nm) : (namedL nm = [] ∧ refT (nm ++ 59 :: t) = [38] ∧ refW (nm ++ 59 :: t) = 0) ∨ (namedL nm ≠ [] ∧ refT (nm ++ 59 :: t) = namedL nm ∧ refW (nm ++ 59 :: t) = nm.length + 1) := by
  have hq := refQ_name nm t h
  unfold namedL refT refW
  rcases nameP_neg nm with e | e
  · left; rw [hq, e]; exact ⟨rfl, rfl, rfl⟩
  · right
    rw [if_neg (by omega)] at hq
    rw [hq, if_neg (by omega)]
    refine ⟨?_, ?_, ?_⟩
    · intro hh; have := (encodeRune_length (nameP nm)).1; rw [hh] at this; simp at this
    · rw [if_neg]; simp only; omega
    · rw [if_neg]
      · simp
      · simp only; omega
theorem take_split (l : List UInt8) (i n : Nat) (c : UInt8) (h : l.take n = (l.take n).take i ++ c :: (l.take n).drop (i + 1)) (hi : i < n) : l = l.take i ++ c :: l.drop (i + 1) := by
  have e : (l.take n).take i = l.take i := by rw [List.take_take]; congr 1; omega
  have hl : i < (l.take n).length := by
    have := congrArg List.length h
    rw [List.length_append, List.length_cons, List.length_take (l := l.take n), List.length_drop] at this
    omega
  have hl2 : i < l.length := by rw [List.length_take] at hl; omega
  have hg : (l.take n)[i]? = some c := by
    rw [h, List.getElem?_append_right (by rw [List.length_take]; omega), List.length_take, Nat.min_eq_left (by omega)]; simp
  rw [List.getElem?_take_of_lt hi] at hg
  have hg2 : l[i] = c := by rw [List.getElem?_eq_getElem hl2] at hg; exact Option.some.inj hg
  have := List.drop_eq_getElem_cons hl2
  rw [hg2] at this
  rw [← this, List.take_append_drop]
end Go.Proofs.YtchgelfomnbpaaaDoor
namespace Go.Proofs.YtchgelfomnbpaaaDoor
open Go.RowKit
open Go.Lib

theorem refW_le (l : List UInt8) : refW l ≤ l.length := by
  unfold refW
  split
  · omega
  · rename_i h
    rcases refQ_ok l with e | ⟨_, _, e, _⟩
    · rw [e] at h; exact absurd (by decide) h
    · omega
theorem refT_len (l : List UInt8) : (refT l).length ≤ 4 := by
  unfold refT
  split
  · simp
  · exact (encodeRune_length _).2
theorem unh_step (a r : List UInt8) (h : (38 : UInt8) ∉ a) : unh (a ++ 38 :: r) = a ++ (refT r ++ unh (r.drop (refW r))) := by
  rw [unh_pass _ _ h]
  congr 1
  unfold refT refW
  by_cases hh : (refQ r).1 < 0
  · rw [if_pos hh, if_pos hh, unh_amp r hh]; rfl
  · rw [if_neg hh, if_neg hh, unh_ref r hh]
theorem unh_end (a : List UInt8) (h : (38 : UInt8) ∉ a) : unh a = a := by
  have := unh_pass [] a h
  rw [List.append_nil, unh_nil, List.append_nil] at this
  exact this
theorem byteCells_str (a : List UInt8) (s : ByteArray) : byteCells a ++ Lib.strCells s = byteCells (a ++ s.data.toList) := by
  rw [Lib.strCells_eq, byteCells_append]
theorem piece (acc q : List Int) (l : List UInt8) (h : enc q = l) : byteCells (enc acc) ++ Lib.strCells ⟨l.toArray⟩ = byteCells (enc (acc ++ q)) := by
  rw [Lib.strCells_eq, enc_append, byteCells_append, h]
theorem hP_else (p : Int) (h1 : p ≠ 38) (h2 : p ≠ 60) (h3 : p ≠ 62) (h4 : p ≠ 34) (h5 : p ≠ 39) : hP p = [p] := by
  unfold hP; rw [if_neg h1, if_neg h2, if_neg h3, if_neg h4, if_neg h5]
end Go.Proofs.YtchgelfomnbpaaaDoor
