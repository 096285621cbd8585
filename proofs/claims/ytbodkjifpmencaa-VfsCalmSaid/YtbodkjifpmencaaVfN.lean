/-
  What a script of acts keeps true of a disk: modest, each body at home, right paths, how many bytes. No conditions.
-/
import Derived.Test.YtbodkjifpmencaaVZH
import Derived.Test.YtbodkjifpmencaaVfM
namespace Go.Proofs.Ytbodkjifpmencaa

structure Scr (q : Q) (m : Nat) : Prop where
  small : Small (1100 * m) q
  home : ∃ h, Home h q
  rt : Rt q
  tot : totalB q ≤ 999 * m
  told : q.told = false
  room : q.room = 1048576
theorem Scr.new : Scr (qNew 1048576) 0 := ⟨Small.new 1048576 (by decide), ⟨_, Home.new _⟩, Rt.new _, Nat.zero_le _, rfl, rfl⟩
theorem Scr.mono {q : Q} {m k : Nat} (h : Scr q m) (hk : m ≤ k) : Scr q k := ⟨h.small.mono (by omega), h.home, h.rt, by have := h.tot; omega, h.told, h.room⟩
theorem begin_told {q : Q} (h : q.told = false) (r : Bool) : (beginQ q r).2 = q := by
  rw [begin_snd]
  cases r
  · rfl
  · rw [if_pos rfl]
    unfold strikeQ
    rw [if_neg (by rw [h]; decide)]
/-- Two of a disk's parts that no act but a failure or a crash changes. -/
def Same2 (q q' : Q) : Prop := q'.told = q.told ∧ q'.room = q.room
theorem Same2.extend (q : Q) (k : Nat) (b : Bs) : Same2 q (extendQ q k b) := by unfold extendQ; split <;> exact ⟨rfl, rfl⟩
theorem same_write {q : Q} (h : q.told = false) (p b : Bs) : Same2 q (writeQ q p b).2 := by
  have h1 := begin_told h (rightL p)
  unfold writeQ
  rcases hb : beginQ q (rightL p) with ⟨e, q1⟩
  rw [hb] at h1
  dsimp only at *
  subst h1
  split
  · split
    · exact Same2.extend { q1 with bodies := q1.bodies ++ [⟨[], 0⟩] } q1.bodies.length b
    · exact ⟨rfl, rfl⟩
  · exact ⟨rfl, rfl⟩
theorem same_append {q : Q} (h : q.told = false) (p b : Bs) : Same2 q (appendQ q p b).2 := by
  have h1 := begin_told h (rightL p)
  unfold appendQ
  rcases hb : beginQ q (rightL p) with ⟨e, q1⟩
  rw [hb] at h1
  dsimp only at *
  subst h1
  split
  · split
    · exact ⟨rfl, rfl⟩
    · split
      · exact Same2.extend _ _ b
      · exact ⟨rfl, rfl⟩
  · exact ⟨rfl, rfl⟩
theorem same_rename {q : Q} (h : q.told = false) (p t : Bs) : Same2 q (renameQ q p t).2 := by
  have h1 := begin_told h (rightL p && rightL t && dirL p == dirL t)
  unfold renameQ
  rcases hb : beginQ q (rightL p && rightL t && dirL p == dirL t) with ⟨e, q1⟩
  rw [hb] at h1
  dsimp only at *
  subst h1
  split
  · split
    · exact ⟨rfl, rfl⟩
    · dsimp only
      split <;> exact ⟨rfl, rfl⟩
  · exact ⟨rfl, rfl⟩
theorem same_remove {q : Q} (h : q.told = false) (p : Bs) : Same2 q (removeQ q p).2 := by
  have h1 := begin_told h (rightL p)
  unfold removeQ
  rcases hb : beginQ q (rightL p) with ⟨e, q1⟩
  rw [hb] at h1
  dsimp only at *
  subst h1
  split
  · split <;> exact ⟨rfl, rfl⟩
  · exact ⟨rfl, rfl⟩
theorem same_sync {q : Q} (h : q.told = false) (p : Bs) : Same2 q (syncQ q p).2 := by
  have h1 := begin_told h (rightL p)
  unfold syncQ
  rcases hb : beginQ q (rightL p) with ⟨e, q1⟩
  rw [hb] at h1
  dsimp only at *
  subst h1
  split
  · split <;> exact ⟨rfl, rfl⟩
  · exact ⟨rfl, rfl⟩
theorem same_syncDir {q : Q} (h : q.told = false) (d : Bs) : Same2 q (syncDirQ q d).2 := by
  have h1 := begin_told h (d == [] || isPartL d)
  unfold syncDirQ
  rcases hb : beginQ q (d == [] || isPartL d) with ⟨e, q1⟩
  rw [hb] at h1
  dsimp only at *
  subst h1
  split
  · obtain ⟨_, _, _, s4, s5, _⟩ := keepQ_same q1 ((look q1.changes d).getD [])
    exact ⟨s5, s4⟩
  · exact ⟨rfl, rfl⟩
theorem Scr.act {q : Q} {m : Nat} (H : Scr q m) (o : OpR) (hb : o.b.length < 1000) : Scr (tryQ q o).2 (m + 1) := by
  obtain ⟨h, hh⟩ := H.home
  have hN : 1100 * (m + 1) = 1100 * m + 1100 := by omega
  have ht : 999 * (m + 1) = 999 * m + 999 := by omega
  have h0 := H.tot
  unfold tryQ
  split
  · have s := same_write H.told o.path.data.toList o.b
    exact ⟨(H.small.write _ _).mono (by omega), hh.write H.small _ _, H.rt.write _ _, by have := total_write q o.path.data.toList o.b; omega, s.1.trans H.told, s.2.trans H.room⟩
  · split
    · have s := same_append H.told o.path.data.toList o.b
      exact ⟨(H.small.append _ _).mono (by omega), ⟨h, hh.append _ _⟩, H.rt.append _ _, by have := total_append q o.path.data.toList o.b; omega, s.1.trans H.told, s.2.trans H.room⟩
    · split
      · have s := same_rename H.told o.path.data.toList o.tgt.data.toList
        exact ⟨(H.small.rename _ _).mono (by omega), ⟨h, hh.rename _ _⟩, H.rt.rename _ _, by rw [total_rename]; omega, s.1.trans H.told, s.2.trans H.room⟩
      · split
        · have s := same_remove H.told o.path.data.toList
          exact ⟨(H.small.remove _).mono (by omega), ⟨h, hh.remove _⟩, H.rt.remove _, by rw [total_remove]; omega, s.1.trans H.told, s.2.trans H.room⟩
        · split
          · have s := same_sync H.told o.path.data.toList
            exact ⟨(H.small.sync _).mono (by omega), ⟨h, hh.sync _⟩, H.rt.sync _, by have := total_sync q o.path.data.toList; omega, s.1.trans H.told, s.2.trans H.room⟩
          · have s := same_syncDir H.told o.path.data.toList
            exact ⟨(H.small.syncDir _).mono (by omega), ⟨h, hh.syncDir _⟩, H.rt.syncDir _, by have := total_syncDir q o.path.data.toList; omega, s.1.trans H.told, s.2.trans H.room⟩
/-- Behind the first crash: calm, and all that was true but for the numbers. -/
structure Still (q : Q) (M : Nat) : Prop where
  calm : Calm q
  small : Small M q
  nodup : (q.names.map (·.2)).Nodup
  right : ∀ x ∈ q.names, rightL x.1 = true
  room : q.room = 1048576
theorem crash_room (q : Q) (ks : List Int) : (crashQ q ks).room = q.room := by
  have h1 := stayAll_room q ks (looseS q) _ (Nat.le_refl _)
  rw [← crashA_eq] at h1
  have h2 := dirAll_ind (P := fun x => x.room = (crashA q ks).1.room) ({ (crashA q ks).1 with loose := [] }, (crashA q ks).2) (dirsS (crashA q ks).1) rfl (fun q cs h => (keepQ_same q cs).2.2.2.1.trans h) _ (Nat.le_refl _)
  rw [← crashB_eq] at h2
  exact h2.trans h1
theorem Scr.crash {q : Q} {m : Nat} (H : Scr q m) (ks : List Int) : Still (crashQ q ks) (1100 * m) ∧ totalB (crashQ q ks) ≤ 999 * m := by
  obtain ⟨h, hh⟩ := H.home
  exact ⟨⟨calm_crash q H.small ks, H.small.crash ks, (hh.crash H.small ks).nodup, (H.rt.crash H.small ks).names, (crash_room q ks).trans H.room⟩, Nat.le_trans (total_crash q ks) H.tot⟩
/-- An append of a byte finds room. -/
theorem Still.room1 {q : Q} {M : Nat} (H : Still q M) (ht : totalB q + 1 ≤ 1048576) : (usedQ q : Int) + 1 ≤ q.room := by
  have := used_total H.nodup (fun x hx => (H.small.kn x hx).2)
  rw [H.room]
  omega
end Go.Proofs.Ytbodkjifpmencaa
