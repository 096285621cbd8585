/-
  Words for the rows of structs of texts that layer 8 makes: slices that read as cells, rows of the call's own, a scope's row that grows in place. No conditions.
-/
import Derived.Test.YtklcjimmbkpbdaaGreatDoorZ13
import Derived.Deep.AppendLies
namespace Go.Proofs.YtklcjimmbkpbdaaGreatDoor
open Go.RowKit
open Go.Lib
abbrev TA3 : TypeId := 52
abbrev TBi : TypeId := 78
abbrev sV (b : Bt) : Value := .string (bs b)
def RC (w : World) (T : Nat → Prop) (A : Option Addr) (cs : List Value) : Prop :=
 0 < cs.length → ∃ b off, A = some ⟨b, off, none⟩ ∧ T b ∧ b < w.heap.size ∧ ∀ j u, cs[j]? = some u → w.cell? ⟨b, off + j, none⟩ = some u
theorem RC.nil (w : World) (T : Nat → Prop) (A : Option Addr) : RC w T A [] := fun h => absurd h (Nat.lt_irrefl _)
theorem RC.off {F T : Nat → Prop} {w w' : World} {A : Option Addr} {cs : List Value} (h : RC w T A cs) (ho : Off F w w') (hF : ∀ b, T b → ¬ F b) : RC w' T A cs := fun h0 => by
 obtain ⟨b, off, e, ht, hb, hc⟩ := h h0
 exact ⟨b, off, e, ht, Nat.lt_of_lt_of_le hb ho.size, fun j u hj => ho.cell (hc j u hj) (hF b ht)⟩
theorem RC.below {T : Nat → Prop} {w w' : World} {A : Option Addr} {cs : List Value} (h : RC w T A cs) (hb : Below w.heap.size w w') : RC w' T A cs := h.off (Off.of_below hb) (fun _ _ h => h)
theorem RC.mono {T T' : Nat → Prop} {w : World} {A : Option Addr} {cs : List Value} (h : RC w T A cs) (hT : ∀ b, T b → T' b) : RC w T' A cs := fun h0 => by
 obtain ⟨b, off, e, ht, hb, hc⟩ := h h0
 exact ⟨b, off, e, hT b ht, hb, hc⟩
theorem RC.of_own {w : World} {B : Nat} {e : TypeId} {k n : Nat} {v : Value} {cs : List Value} (h : w.ownsRow B e k v n cs) (T : Nat → Prop) (hT : ∀ b, v.ownBlock = some b → T b) : ∃ A c, v = .slice A n c ∧ n ≤ c ∧ RC w T A cs := by
 rcases h.2 with ⟨rfl, hn⟩ | ⟨g, cap, cur, rfl, hb, hh, hc, _, _, _⟩
 ·subst hn
  refine ⟨none, 0, rfl, Nat.le_refl _, ?_⟩
  have : cs = [] := List.eq_nil_of_length_eq_zero (by rw [h.1]; omega)
  rw [this]
  exact RC.nil _ _ _
 ·refine ⟨some ⟨g, 0, none⟩, cap, rfl, hc, fun _ => ⟨g, 0, rfl, hT g rfl, (World.ownsRow.lt h g rfl).2, fun j u hj => ?_⟩⟩
  have := World.ownsRow.cells h (g := g) rfl j u hj
  rwa [Addr.add_mid] at this
theorem flat_at {α : Type} {f : α → List Value} {k : Nat} (hf : ∀ a, (f a).length = k) : ∀ (l : List α) (j i : Nat) (h : j < l.length), i < k → (l.flatMap f)[j * k + i]? = (f l[j])[i]?
 | a :: l, 0, i, _, hi => by
  rw [List.flatMap_cons, Nat.zero_mul, Nat.zero_add, List.getElem?_append_left (by rw [hf]; exact hi)]
  rfl
 | a :: l, j + 1, i, h, hi => by
  rw [List.flatMap_cons, List.getElem?_append_right (by rw [hf, Nat.add_mul]; omega), hf, show (j + 1) * k + i - k = j * k + i by rw [Nat.add_mul]; omega, flat_at hf l j i (by simpa using h) hi]
  rfl
theorem flat_len {α : Type} {f : α → List Value} {k : Nat} (hf : ∀ a, (f a).length = k) : ∀ (l : List α), (l.flatMap f).length = l.length * k
 | [] => by simp
 | a :: l => by rw [List.flatMap_cons, List.length_append, hf, flat_len hf l, List.length_cons, Nat.add_mul]; omega
def fM (m : XM) : List Value := [sV m.1.1, sV m.1.2, sV m.2]
def fA (a : XA) : List Value := [sV a.1, sV a.2.1, sV a.2.2]
def fS (d : Bt × Bt) : List Value := [sV d.1, sV d.2]
def cM (l : List XM) : List Value := l.flatMap fM
def cA (l : List XA) : List Value := l.flatMap fA
def cS (l : XS) : List Value := l.flatMap fS
theorem cM_len (l : List XM) : (cM l).length = l.length * 3 := flat_len (f := fM) (k := 3) (fun _ => rfl) l
theorem cA_len (l : List XA) : (cA l).length = l.length * 3 := flat_len (f := fA) (k := 3) (fun _ => rfl) l
theorem cS_len (l : XS) : (cS l).length = l.length * 2 := flat_len (f := fS) (k := 2) (fun _ => rfl) l
theorem cM_snoc (l : List XM) (m : XM) : cM (l ++ [m]) = cM l ++ fM m := by simp [cM]
theorem cA_snoc (l : List XA) (m : XA) : cA (l ++ [m]) = cA l ++ fA m := by simp [cA]
theorem cS_snoc (l : XS) (m : Bt × Bt) : cS (l ++ [m]) = cS l ++ fS m := by simp [cS]
theorem RC.m3 {w : World} {b off : Nat} {l : List XM} (hc : ∀ j u, (cM l)[j]? = some u → w.cell? ⟨b, off + j, none⟩ = some u) (j : Nat) (h : j < l.length) :
    w.cell? ⟨b, off + j * 3, none⟩ = some (sV l[j].1.1) ∧ w.cell? ⟨b, off + j * 3 + 1, none⟩ = some (sV l[j].1.2) ∧ w.cell? ⟨b, off + j * 3 + 2, none⟩ = some (sV l[j].2) := by
 have h0 := hc (j * 3 + 0) _ (flat_at (f := fM) (fun _ => rfl) l j 0 h (by omega))
 have h1 := hc (j * 3 + 1) _ (flat_at (f := fM) (fun _ => rfl) l j 1 h (by omega))
 have h2 := hc (j * 3 + 2) _ (flat_at (f := fM) (fun _ => rfl) l j 2 h (by omega))
 exact ⟨h0, h1, h2⟩
theorem RC.a3 {w : World} {b off : Nat} {l : List XA} (hc : ∀ j u, (cA l)[j]? = some u → w.cell? ⟨b, off + j, none⟩ = some u) (j : Nat) (h : j < l.length) :
    w.cell? ⟨b, off + j * 3, none⟩ = some (sV l[j].1) ∧ w.cell? ⟨b, off + j * 3 + 1, none⟩ = some (sV l[j].2.1) ∧ w.cell? ⟨b, off + j * 3 + 2, none⟩ = some (sV l[j].2.2) := by
 have h0 := hc (j * 3 + 0) _ (flat_at (f := fA) (fun _ => rfl) l j 0 h (by omega))
 have h1 := hc (j * 3 + 1) _ (flat_at (f := fA) (fun _ => rfl) l j 1 h (by omega))
 have h2 := hc (j * 3 + 2) _ (flat_at (f := fA) (fun _ => rfl) l j 2 h (by omega))
 exact ⟨h0, h1, h2⟩
theorem RC.s2 {w : World} {b off : Nat} {l : XS} (hc : ∀ j u, (cS l)[j]? = some u → w.cell? ⟨b, off + j, none⟩ = some u) (j : Nat) (h : j < l.length) :
    w.cell? ⟨b, off + j * 2, none⟩ = some (sV l[j].1) ∧ w.cell? ⟨b, off + j * 2 + 1, none⟩ = some (sV l[j].2) := by
 have h0 := hc (j * 2 + 0) _ (flat_at (f := fS) (fun _ => rfl) l j 0 h (by omega))
 have h1 := hc (j * 2 + 1) _ (flat_at (f := fS) (fun _ => rfl) l j 1 h (by omega))
 exact ⟨h0, h1⟩
theorem appR {ops : Array Oper} {rest : List Oper} {o : Oper} {a : Act} {Q : Exit → Act → World → Prop} (hgd : o.guard = none) (s x : Operand) (tS e : TypeId) (k bytes : Nat) (z : Value)
    (hu : Tryz.prog.underlying tS = some (.slice e)) (hinfo : (Tryz.prog.info? e).map (fun i => (i.zero, i.size, i.bytes)) = some (some z, k, bytes)) (hzc : z.cells.size = k) (hk : 0 < k) (hby : bytes ≤ 100)
    (ho : o.op = .call { callee := .builtin .append, args := #[s, x], argTypes := #[tS, tS] }) (w : World) (B : Nat) (v : Value) (n : Nat) (cs news : List Value) (hn : news.length = k) (h1 : ∀ u ∈ news, u.oneCell' = true)
    (hs : a.eval s = v) (hown : w.ownsRow B e k v n cs) (hx : a.eval x = .slice (some ⟨w.heap.size, 0, none⟩) 1 1) (hlen : n ≤ 1000000) (hB : B ≤ w.heap.size)
    (h : ∀ v' w', w'.ownsRow B e k v' (n + 1) (cs ++ news) → Off (fun b => v.ownBlock = some b) w w' → (∀ b, v'.ownBlock = some b → v.ownBlock = some b ∨ w.heap.size ≤ b) → wpList Tryz.prog ops Q rest (a.put o.dst v') w') :
    wpList Tryz.prog ops Q (o :: rest) a (w.alloc (.cells news.toArray e)) := by
 obtain ⟨i0, hi, hz0, hz1, hz2⟩ := info_parts hinfo
 have hb9 : (n + 1) * bytes ≤ 1000001 * 100 := Nat.mul_le_mul (by omega) hby
 refine wpList_append_own_at _ hgd s x tS ho B e i0 z k bytes hu hi hz0 hz1 hz2 hzc hk v n _ hs (World.ownsRow.alloc hown _) ⟨w.heap.size, 0, none⟩ 1 1 news hx (by rw [hn, Nat.one_mul])
  (fun j u hj => by rw [Addr.add_mid, Nat.zero_add, (Blk.new _ _).cell]; simpa using hj) h1 (by unfold maxLen; omega) (by omega) (by simp; omega) ?_
 intro v' w' h1 h2 _ h4
 refine h v' w' h1 (((Off.of_below ((Below.refl _ _).alloc (Nat.le_refl _) _)).mono (fun _ h => h.elim)).trans (Off.of_grown h2) (fun _ h => .inl h)) (fun b hb => ?_)
 rcases h4 with h4 | h4
 ·exact .inl (by rw [← h4]; exact hb)
 ·right
  rw [h4] at hb
  have := Option.some.inj hb
  simp at this
  omega
theorem appRH {ops : Array Oper} {rest : List Oper} {o : Oper} {a : Act} {Q : Exit → Act → World → Prop} (hgd : o.guard = none) (s x : Operand) (tS e : TypeId) (k bytes : Nat) (z : Value)
    (hu : Tryz.prog.underlying tS = some (.slice e)) (hinfo : (Tryz.prog.info? e).map (fun i => (i.zero, i.size, i.bytes)) = some (some z, k, bytes)) (hzc : z.cells.size = k) (hk : 0 < k) (hby : bytes ≤ 100)
    (ho : o.op = .call { callee := .builtin .append, args := #[s, x], argTypes := #[tS, tS] }) (w : World) (H : Nat) (hH : w.heap.size = H) (B : Nat) (v : Value) (n : Nat) (cs news : List Value) (hn : news.length = k) (h1 : ∀ u ∈ news, u.oneCell' = true)
    (hs : a.eval s = v) (hown : w.ownsRow B e k v n cs) (hx : a.eval x = .slice (some ⟨H, 0, none⟩) 1 1) (hlen : n ≤ 1000000) (hB : B ≤ w.heap.size)
    (h : ∀ v' w', w'.ownsRow B e k v' (n + 1) (cs ++ news) → Off (fun b => v.ownBlock = some b) w w' → (∀ b, v'.ownBlock = some b → v.ownBlock = some b ∨ w.heap.size ≤ b) → wpList Tryz.prog ops Q rest (a.put o.dst v') w') :
    wpList Tryz.prog ops Q (o :: rest) a (w.alloc (.cells news.toArray e)) := by
 subst hH
 exact appR hgd s x tS e k bytes z hu hinfo hzc hk hby ho w B v n cs news hn h1 hs hown hx hlen hB h
theorem Tryz.info8A : (Tryz.prog.info? TA3).map (fun i => (i.zero, i.size, i.bytes)) = some (some (.agg #[.string ⟨#[]⟩, .string ⟨#[]⟩, .string ⟨#[]⟩]), 3, 48) := by kernel_rfl
theorem Tryz.info8M : (Tryz.prog.info? TAt).map (fun i => (i.zero, i.size, i.bytes)) = some (some (.agg #[.string ⟨#[]⟩, .string ⟨#[]⟩, .string ⟨#[]⟩]), 3, 48) := by kernel_rfl
theorem Tryz.info8B : (Tryz.prog.info? TBi).map (fun i => (i.zero, i.size, i.bytes)) = some (some (.agg #[.string ⟨#[]⟩, .string ⟨#[]⟩]), 2, 32) := by kernel_rfl
abbrev ScV (S n cap : Nat) : Value := .slice (some ⟨S, 0, none⟩) n cap
def ScR (S cap : Nat) (l : XS) (w : World) : Prop := ∃ cur, Blk S (.cells cur TBi (0, 0)) w ∧ l.length ≤ cap ∧ cap ≤ maxLen ∧ cur.size = cap * 2 ∧ cur.toList.take (l.length * 2) = cS l
def KeepS (S n : Nat) (w w' : World) : Prop := ∀ cur, Blk S (.cells cur TBi (0, 0)) w → ∃ cur', Blk S (.cells cur' TBi (0, 0)) w' ∧ cur'.size = cur.size ∧ cur'.toList.take (n * 2) = cur.toList.take (n * 2)
theorem KeepS.refl (S n : Nat) (w : World) : KeepS S n w w := fun cur h => ⟨cur, h, rfl, rfl⟩
theorem KeepS.trans {S n : Nat} {a b c : World} (h : KeepS S n a b) (k : KeepS S n b c) : KeepS S n a c := fun cur hc => by
 obtain ⟨c1, h1, h2, h3⟩ := h cur hc
 obtain ⟨c2, k1, k2, k3⟩ := k c1 h1
 exact ⟨c2, k1, k2.trans h2, k3.trans h3⟩
theorem KeepS.less {S n m : Nat} {a b : World} (h : KeepS S n a b) (hm : m ≤ n) : KeepS S m a b := fun cur hc => by
 obtain ⟨c1, h1, h2, h3⟩ := h cur hc
 refine ⟨c1, h1, h2, ?_⟩
 have := congrArg (List.take (m * 2)) h3
 rwa [List.take_take, List.take_take, Nat.min_eq_left (Nat.mul_le_mul_right 2 hm)] at this
theorem KeepS.off {S n : Nat} {F : Nat → Prop} {a b : World} (h : Off F a b) (hF : ¬ F S) : KeepS S n a b := fun cur hc => ⟨cur, h.blk hc hF, rfl, rfl⟩
theorem ScR.keep {S cap : Nat} {l : XS} {w w' : World} (h : ScR S cap l w) (k : KeepS S l.length w w') : ScR S cap l w' := by
 obtain ⟨cur, h1, h2, h3, h4, h5⟩ := h
 obtain ⟨c1, k1, k2, k3⟩ := k cur h1
 exact ⟨c1, k1, h2, h3, k2.trans h4, k3.trans h5⟩
theorem ScR.off {S cap : Nat} {l : XS} {F : Nat → Prop} {w w' : World} (h : ScR S cap l w) (ho : Off F w w') (hF : ¬ F S) : ScR S cap l w' := h.keep (KeepS.off ho hF)
theorem ScR.lt {S cap : Nat} {l : XS} {w : World} (h : ScR S cap l w) : S < w.heap.size := by
 obtain ⟨cur, h1, _⟩ := h
 exact h1.lt
theorem ScR.cells {S cap : Nat} {l : XS} {w : World} (h : ScR S cap l w) : ∀ j u, (cS l)[j]? = some u → w.cell? ⟨S, 0 + j, none⟩ = some u := by
 obtain ⟨cur, h1, h2, h3, h4, h5⟩ := h
 intro j u hj
 rw [Nat.zero_add, h1.cell]
 rw [← h5, List.getElem?_take] at hj
 split at hj
 ·rw [← Array.getElem?_toList]; exact hj
 ·cases hj
theorem sc_app {S cap : Nat} {l : XS} {w : World} (H : ScR S cap l w) (d : Bt × Bt) (hl : l.length ≤ 1000000) (ty : TypeId) :
    ∃ S' cap' w', (Builtin.append_ #[55, 55] ty #[ScV S l.length cap, .slice (some ⟨w.heap.size, 0, none⟩) 1 1]).run Tryz.prog (w.alloc (.cells #[sV d.1, sV d.2] TBi)) = .ok (ScV S' (l.length + 1) cap') w' ∧
     ScR S' cap' (l ++ [d]) w' ∧ Off (fun b => b = S) w w' ∧ KeepS S l.length w w' ∧ (S' = S ∨ w.heap.size ≤ S') := by
 have hSlt := H.lt
 have H1 : ScR S cap l (w.alloc (.cells #[sV d.1, sV d.2] TBi)) := H.off (Off.of_below (below_alloc8 _ _)) (fun h => h)
 have hoff : Off (fun b => b = S) w (w.alloc (.cells #[sV d.1, sV d.2] TBi)) := Off.ofB (below_alloc8 _ _)
 have hkeep : KeepS S l.length w (w.alloc (.cells #[sV d.1, sV d.2] TBi)) := KeepS.off (Off.of_below (below_alloc8 _ _)) (fun h => h)
 obtain ⟨i0, hi, hz0, hz1, hz2⟩ := info_parts Tryz.info8B
 have hnews : ∀ j u, (fS d)[j]? = some u → (w.alloc (.cells #[sV d.1, sV d.2] TBi)).cell? ((⟨w.heap.size, 0, none⟩ : Addr).add j) = some u := fun j u hj => by
  rw [Addr.add_mid, Nat.zero_add, (Blk.new _ _).cell]
  simpa [fS] using hj
 have hone : ∀ u ∈ fS d, u.oneCell' = true := fun u hu => by simp [fS] at hu; rcases hu with rfl | rfl <;> rfl
 have hcl := H1.cells
 have hsz : w.heap.size ≤ (w.alloc (.cells #[sV d.1, sV d.2] TBi)).heap.size := by simp
 generalize w.alloc (.cells #[sV d.1, sV d.2] TBi) = W at *
 obtain ⟨cur, h1, h2, h3, h4, h5⟩ := H1
 have hcs := cS_len l
 by_cases hroom : l.length + 1 ≤ cap
 ·have hfit : l.length * i0.size + (fS d).length ≤ cur.size := by rw [hz1, h4]; simp only [fS, List.length_cons, List.length_nil]; omega
  have hr := run_append_room (P := Tryz.prog) W 55 ty TBi i0 Tryz.underlying55 hi S l.length cap cur h1 ⟨w.heap.size, 0, none⟩ 1 1 (fS d) (by rw [hz1]; rfl) hnews hone hroom hfit
  have hb := setRow_heap W S cur (cur.toList.take (l.length * i0.size) ++ fS d ++ cur.toList.drop (l.length * i0.size + (fS d).length)).toArray TBi (0, 0) h1
  rw [hz1] at hr hb
  have hf2 : (fS d).length = 2 := rfl
  have hcl2 : cur.toList.length = cap * 2 := by rw [Array.length_toList, h4]
  have hsize : (cur.toList.take (l.length * 2) ++ fS d ++ cur.toList.drop (l.length * 2 + (fS d).length)).toArray.size = cap * 2 := by
   simp only [List.size_toArray, List.length_append, List.length_take, List.length_drop]
   omega
  have htk : (cur.toList.take (l.length * 2)).length = l.length * 2 := by rw [List.length_take]; omega
  refine ⟨S, cap, _, hr, ⟨_, hb, by simp; omega, h3, hsize, ?_⟩, hoff.then ⟨rfl, rfl, rfl, by simp, fun k _ hk => setRow_other W S k _ (fun e => hk e)⟩, hkeep.trans (fun c hc => ?_), .inl rfl⟩
  ·rw [List.length_append, List.length_singleton, cS_snoc, ← h5]
   show (cur.toList.take (l.length * 2) ++ fS d ++ cur.toList.drop (l.length * 2 + (fS d).length)).take ((l.length + 1) * 2) = _
   rw [List.take_append_of_le_length (by simp only [List.length_append]; omega), List.take_of_length_le (by simp only [List.length_append]; omega)]
  ·have hcc : c = cur := by
    have := hc.symm.trans h1
    simpa using this
   subst hcc
   refine ⟨_, hb, hsize.trans h4.symm, ?_⟩
   show (c.toList.take (l.length * 2) ++ fS d ++ c.toList.drop (l.length * 2 + (fS d).length)).take (l.length * 2) = _
   rw [List.append_assoc, List.take_append_of_le_length (by omega), List.take_of_length_le (by omega)]
 ·have hr := run_append_grow (P := Tryz.prog) W 55 ty TBi i0 (.agg #[.string ⟨#[]⟩, .string ⟨#[]⟩]) Tryz.underlying55 hi hz0 ⟨S, 0, none⟩ l.length cap (cS l) (by rw [hz1]; exact hcs)
   (fun j u hj => by rw [Addr.add_mid]; exact hcl j u hj) ⟨w.heap.size, 0, none⟩ 1 1 (fS d) (by rw [hz1]; rfl) hnews (by omega) (by omega) (growslice_fits (by omega) (by rw [hz2]; omega))
  have hge := grownCap_ge W (l.length + 1) cap TBi
  have hcm : grownCap W (l.length + 1) cap TBi ≤ maxLen := grownCap_le_maxLen W (l.length + 1) cap TBi (by unfold maxLen; omega)
  have hf2 : (fS d).length = 2 := rfl
  refine ⟨_, _, _, hr, ⟨_, heap_alloc_new W.drew _, by simp; omega, hcm, ?_, ?_⟩, hoff.then (Off.ofB ?_), hkeep.trans (KeepS.off (F := fun _ => False) (Off.of_below ?_) (fun h => h)), .inr hsz⟩
  ·simp only [Array.size_append, List.size_toArray, size_zeroCells, hcs, hf2]
   show l.length * 2 + 2 + (grownCap W (l.length + 1) cap TBi - (l.length + 1)) * 2 = _
   omega
  ·simp only [Array.toList_append, List.append_assoc]
   rw [List.length_append, List.length_singleton, cS_snoc, ← List.append_assoc, List.take_append_of_le_length (by rw [List.length_append]; omega), List.take_of_length_le (by rw [List.length_append]; omega)]
  ·exact (below_drewN (Below.refl _ _) 1).alloc (Nat.le_refl _) _
  ·exact (below_drewN (Below.refl _ _) 1).alloc (Nat.le_refl _) _
end Go.Proofs.YtklcjimmbkpbdaaGreatDoor
