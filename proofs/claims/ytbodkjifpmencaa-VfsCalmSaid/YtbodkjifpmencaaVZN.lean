/-
  Two rows of texts that a law gathers beside its disk. No conditions.
-/
import Derived.Test.YtbodkjifpmencaaVZM
import Derived.Test.YtbodkjifpmencaaVfO
namespace Go.Proofs.Ytbodkjifpmencaa
open Go.RowKit
open Go.Lib

/-- The disk at block D, two rows of the law's own, and the blocks of S, which are as at w3. -/
def Gat (S : Nat → Prop) (w3 : World) (D : Nat) (q : Q) (vN vT : Value) (ns ts : List Bs) (W : World) : Prop :=
  ∃ S' : Nat → Prop, (∀ b, S b → S' b) ∧ (∀ b, S' b → b < W.heap.size) ∧ MineS S' W D q W ∧ Off (fun b => ¬ S b) w3 W ∧ OwnS W vN ns ∧ OwnS W vT ts ∧ (∀ b, vN.ownBlock = some b → S' b ∧ ¬ S b ∧ vT.ownBlock ≠ some b) ∧ ∀ b, vT.ownBlock = some b → S' b ∧ ¬ S b
section
variable {S : Nat → Prop} {w3 W W' V : World} {D : Nat} {q q' : Q} {vN vT vN' vT' : Value} {ns ts ns' ts' : List Bs}
theorem ownS_nil (w : World) : OwnS w (.slice none 0 0) [] := World.ownsRow_nil _ _ _ _
theorem Gat.start (hlt : ∀ b, S b → b < w3.heap.size) (M : MineS S w3 D q W) : Gat S w3 D q (.slice none 0 0) (.slice none 0 0) [] [] W :=
  ⟨S, fun _ h => h, fun b hb => Nat.lt_of_lt_of_le (hlt b hb) M.off.size, M.re, M.off, ownS_nil _, ownS_nil _, (fun b hb => by cases hb), (fun b hb => by cases hb)⟩
theorem Gat.off (G : Gat S w3 D q vN vT ns ts W) : Off (fun b => ¬ S b) w3 W := by obtain ⟨_, _, _, _, h, _⟩ := G; exact h
theorem Gat.ownN (G : Gat S w3 D q vN vT ns ts W) : OwnS W vN ns := by obtain ⟨_, _, _, _, _, h, _⟩ := G; exact h
theorem Gat.ownT (G : Gat S w3 D q vN vT ns ts W) : OwnS W vT ts := by obtain ⟨_, _, _, _, _, _, h, _⟩ := G; exact h
theorem Gat.ne (G : Gat S w3 D q vN vT ns ts W) {b : Nat} (h : vN.ownBlock = some b) : vT.ownBlock ≠ some b := by obtain ⟨_, _, _, _, _, _, _, k, _⟩ := G; exact (k b h).2.2
theorem Gat.call (G : Gat S w3 D q vN vT ns ts W) : ∃ S' : Nat → Prop, (∀ b, S b → S' b) ∧ (∀ b, S' b → b < W.heap.size) ∧ MineS S' W D q W ∧ ∀ q' W', MineS S' W D q' W' → Gat S w3 D q' vN vT ns ts W' := by
  obtain ⟨S', h1, h2, h3, h4, h5, h6, h7, h8⟩ := G
  refine ⟨S', h1, h2, h3, fun q' W' M => ?_⟩
  have o := M.off
  exact ⟨S', h1, fun b hb => Nat.lt_of_lt_of_le (h2 b hb) o.size, M.re, h4.trans o (fun x hx => .inl (fun hs => hx (h1 x hs))), h5.off o (fun b hb h => h (h7 b hb).1), h6.off o (fun b hb h => h (h8 b hb).1), h7, h8⟩
theorem Gat.below (G : Gat S w3 D q vN vT ns ts W) (hb : Below W.heap.size W W') : Gat S w3 D q vN vT ns ts W' := by
  obtain ⟨S', _, h2, h3, h4⟩ := G.call
  exact h4 _ _ (h3.below h2 hb)
theorem Gat.grow (G : Gat S w3 D q vN vT ns ts W) (hb : Below W.heap.size W W') : Gat (fun b => S b ∨ (W.heap.size ≤ b ∧ b < W'.heap.size)) W' D q vN vT ns ts W' ∧ Off (fun b => ¬ S b) w3 W' := by
  obtain ⟨S', h1, h2, h3, h4, h5, h6, h7, h8⟩ := G
  have o := Off.of_below hb
  refine ⟨⟨_, fun b hb => hb.imp (h1 b) id, fun b h => h.elim (fun h => Nat.lt_of_lt_of_le (h2 b h) hb.size) (fun h => h.2), (h3.grow hb), Off.refl _ _, h5.off o (fun _ _ h => h), h6.off o (fun _ _ h => h), fun b hb => ⟨.inl (h7 b hb).1, ?_, (h7 b hb).2.2⟩, fun b hb => ⟨.inl (h8 b hb).1, ?_⟩⟩, h4.trans o (fun _ h => h.elim)⟩
  · rintro (h | h)
    · exact (h7 b hb).2.1 h
    · have := h2 b (h7 b hb).1; omega
  · rintro (h | h)
    · exact (h8 b hb).2 h
    · have := h2 b (h8 b hb).1; omega
theorem Gat.back {X : Nat → Prop} (G : Gat (fun b => S b ∨ X b) W' D q vN vT ns ts V) (h : Off (fun b => ¬ S b) w3 W') : Gat S w3 D q vN vT ns ts V := by
  obtain ⟨S', h1, h2, h3, h4, h5, h6, h7, h8⟩ := G
  exact ⟨S', fun b hb => h1 b (.inl hb), h2, h3, h.trans h4 (fun x hx => .inl (fun hs => hx (.inl hs))), h5, h6, fun b hb => ⟨(h7 b hb).1, fun hs => (h7 b hb).2.1 (.inl hs), (h7 b hb).2.2⟩, fun b hb => ⟨(h8 b hb).1, fun hs => (h8 b hb).2 (.inl hs)⟩⟩
theorem Gat.both (hlt : ∀ b, S b → b < w3.heap.size) (G : Gat S w3 D q vN vT ns ts W) (B : Both W W' vN vT vN' vT' ns' ts') : Gat S w3 D q vN' vT' ns' ts' W' := by
  obtain ⟨S', h1, h2, h3, h4, h5, h6, h7, h8⟩ := G
  obtain ⟨b1, b2, b3, b4, b5, b6⟩ := B
  have hrow : ∀ b, vN.ownBlock = some b ∨ vT.ownBlock = some b → S' b ∧ ¬ S b := fun b h => h.elim (fun h => ⟨(h7 b h).1, (h7 b h).2.1⟩) (h8 b)
  have hnew : ∀ b, W.heap.size ≤ b → ¬ S b := fun b h hs => by have := hlt b hs; have := h4.size; omega
  refine ⟨fun b => S' b ∨ vN'.ownBlock = some b ∨ vT'.ownBlock = some b, fun b hb => .inl (h1 b hb), ?_, ?_, h4.trans b3 (fun x hx => .inl (hrow x hx).2), b1, b2, fun b hb => ⟨.inr (.inl hb), ?_, b6 b hb⟩, fun b hb => ⟨.inr (.inr hb), ?_⟩⟩
  · rintro b (h | h | h)
    · exact Nat.lt_of_lt_of_le (h2 b h) b3.size
    · exact b1.lt h
    · exact b2.lt h
  · obtain ⟨L, k1, k2, _, k4⟩ := h3
    refine ⟨L, k1, k2.off b3 (fun b hb hf => k4 b hf (hrow b hb).1), Off.refl _ _, fun b hf => ?_⟩
    have hl := k2.foot_lt hf
    rintro (h | h | h)
    · exact k4 b hf h
    · exact (b4 b h).elim (fun h => k4 b hf (h7 b h).1) (fun h => by omega)
    · exact (b5 b h).elim (fun h => k4 b hf (h8 b h).1) (fun h => by omega)
  · exact (b4 b hb).elim (fun h => (h7 b h).2.1) (hnew b)
  · exact (b5 b hb).elim (fun h => (h8 b h).2) (hnew b)
theorem Gat.side (G : Gat S w3 D q vN vT ns ts W) : MineS S w3 D q W := by
  obtain ⟨S', h1, _, h3, h4, _⟩ := G
  obtain ⟨L, k1, k2, _, k4⟩ := h3
  exact ⟨L, k1, k2, h4, fun b hf hs => k4 b hf (h1 b hs)⟩
end
/-- A row of texts, cell by cell. -/
theorem OwnS.form {w : World} {v : Value} {ls : List Bs} (h : OwnS w v ls) : ∃ A c, v = .slice A ls.length c ∧ RT w A ls ∧ (∀ b, aBlock A = some b → b < w.heap.size) ∧ aBlock A = v.ownBlock := by
  rcases h.2 with ⟨rfl, hn⟩ | ⟨g, cap, cur, rfl, hb, hh, hc, _⟩
  · exact ⟨none, 0, by rw [hn], fun hz => absurd hz (by omega), (fun b hb => by cases hb), rfl⟩
  · refine ⟨some ⟨g, 0, none⟩, cap, rfl, fun _ => ⟨g, 0, rfl, (World.ownsRow.lt h g rfl).2, fun j hj => ?_⟩, (fun b hb => by cases hb; exact (World.ownsRow.lt h g rfl).2), rfl⟩
    have := World.ownsRow.cells h (g := g) rfl j (Go.Proofs.encStr ls[j]) (by rw [List.getElem?_map, List.getElem?_eq_getElem hj]; rfl)
    rwa [Addr.add_mid] at this
/-- A row that isn't empty lies at the head of a block. -/
theorem OwnS.at0 {w : World} {v : Value} {ls : List Bs} (h : OwnS w v ls) (hn : 0 < ls.length) : ∃ g c, v = .slice (some ⟨g, 0, none⟩) ls.length c ∧ v.ownBlock = some g ∧ ∀ j (hj : j < ls.length), w.cell? ⟨g, 0 + j, none⟩ = some (.string (bs ls[j])) := by
  rcases h.2 with ⟨rfl, hn'⟩ | ⟨g, cap, cur, rfl, hb, hh, hc, _⟩
  · omega
  · refine ⟨g, cap, rfl, rfl, fun j hj => ?_⟩
    have := World.ownsRow.cells h (g := g) rfl j (Go.Proofs.encStr ls[j]) (by rw [List.getElem?_map, List.getElem?_eq_getElem hj]; rfl)
    rwa [Addr.add_mid] at this
theorem rb_x (w : World) (m : Nat × Nat) : RB (w.alloc (.cells #[.int .u8 120] 5 m)) (some ⟨w.heap.size, 0, none⟩) [120] := fun _ => ⟨_, 0, rfl, by simp, fun j hj => by
  have h : j = 0 := by simp at hj; omega
  subst h
  rw [Nat.zero_add, (Blk.new _ w).cell 0]
  rfl⟩
end Go.Proofs.Ytbodkjifpmencaa
