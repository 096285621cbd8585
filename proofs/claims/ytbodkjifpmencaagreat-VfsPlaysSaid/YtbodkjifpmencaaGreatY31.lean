/-
  Of the proof that disks answer every script as the document says: the parts VRS VKa VhD VhE. No conditions.
-/
import Derived.Test.YtbodkjifpmencaaGreatY29
import Derived.Test.YtbodkjifpmencaaGreatY15
import Derived.BigQuiet
import Derived.Test.YtbodkjifpmencaaGreatY30
import Derived.Test.YtbodkjifpmencaaGreatY14
import Derived.Test.YtbodkjifpmencaaGreatY28
namespace Go.Proofs.YtbodkjifpmencaaGreat
open Go.RowKit
open Go.Lib

set_option maxRecDepth 100000 in
set_option maxHeartbeats 1000000 in
theorem same_any {A A' : Option Addr} {c c' n : Nat} {ls : List Bs} (w : World) (hn : ls.length = n) (hn1 : n ≤ 1048576) (h : RT w A ls) (h' : RT w A' ls) :
    Calls Tryz.prog 15 #[.slice A n c, .slice A' n c'] w fun e w' => e = .returned (.bool true) ∧ Below w.heap.size w w' := by
  have H := Lib.hid h
  have H' := Lib.hid h'
  have HN := Lib.hid hn
  clear h h' hn
  go_enter Tryz.func15, Tryz.ntmps15
  go_wp2
  go_loopw [13] (fun i wr => ∃ j : Nat, j ≤ n ∧ i = .int .i64 (j : Int) ∧ Below w.heap.size w wr) (fun i _ => n - (RowKit.intOf i).toNat)
  case atStart => exact ⟨0, by omega, rfl, Below.refl _ _⟩
  case round =>
    obtain ⟨j, hj, rfl, hb⟩ := hrel
    by_cases hjn : j < n
    · have hjl : j < ls.length := by rw [HN.out]; exact hjn
      obtain ⟨b, off, rfl, hbl, hcs⟩ := H.out (by omega)
      obtain ⟨b', off', rfl, hbl', hcs'⟩ := H'.out (by omega)
      have e1 := (Off.of_below hb).cell (hcs j hjl) (fun h => h)
      have e2 := (Off.of_below hb).cell (hcs' j hjl) (fun h => h)
      obtain ⟨P, hP⟩ : ∃ x, bs ls[j] = x := ⟨_, rfl⟩
      rw [hP] at e1 e2
      have hi0 : (0 : Int) ≤ (j : Int) := by omega
      have hi1 : (j : Int) < (n : Int) := by omega
      clear hcs hcs' hP
      have te : (P.toList == P.toList) = true := by simp
      go_wp2_with fail
      go_quiet (fail)
      go_wp2
      go_roundw
      case rel => exact ⟨j + 1, by omega, by go_num, below_drewN hb _⟩
      case measure => simp [RowKit.intOf]; omega
    · obtain rfl : j = n := by omega
      go_wp2
      go_ret
      exact ⟨rfl, hb⟩
/-! ### What a script keeps true -/
structure RScr (q : Q) (N : Nat) (rm : Int) : Prop where
  small : Small N q
  home : ∃ h, Home h q
  room : q.room = rm
theorem RScr.new (rm : Nat) (h : rm ≤ 9223372036854775807) : RScr (qNew rm) 0 rm := ⟨Small.new _ (by omega), ⟨_, Home.new _⟩, by show max (rm : Int) 0 = rm; omega⟩
theorem RScr.mono {q : Q} {N M : Nat} {rm : Int} (h : RScr q N rm) (hm : N ≤ M) : RScr q M rm := ⟨h.small.mono hm, h.home, h.room⟩
theorem RScr.try {q : Q} {N : Nat} {rm : Int} (H : RScr q N rm) (o : OpR) : RScr (tryQ q o).2 (N + 3 + o.b.length) rm := by
  refine ⟨?_, ?_, (try_room q o).trans H.room⟩
  · unfold tryQ
    split
    · exact H.small.write _ _
    · split
      · exact (H.small.append _ _).mono (by omega)
      · split
        · exact (H.small.rename _ _).mono (by omega)
        · split
          · exact (H.small.remove _).mono (by omega)
          · split
            · exact (H.small.sync _).mono (by omega)
            · exact (H.small.syncDir _).mono (by omega)
  · obtain ⟨h, hh⟩ := H.home
    unfold tryQ
    split
    · exact hh.write H.small _ _
    · split
      · exact ⟨h, hh.append _ _⟩
      · split
        · exact ⟨h, hh.rename _ _⟩
        · split
          · exact ⟨h, hh.remove _⟩
          · split
            · exact ⟨h, hh.sync _⟩
            · exact ⟨h, hh.syncDir _⟩
theorem RScr.fail {q : Q} {N : Nat} {rm : Int} (H : RScr q N rm) (calls : Int) (once : Bool) (h0 : -9223372036854775808 ≤ calls) (h1 : calls ≤ 9223372036854775807) : RScr (failQ q calls once) N rm := by
  obtain ⟨h, hh⟩ := H.home
  exact ⟨H.small.fail _ _ h0 h1, ⟨h, hh.same rfl rfl rfl⟩, H.room⟩
theorem crashQ_room (q : Q) (ks : List Int) : (crashQ q ks).room = q.room := by
  have h1 := stayAll_room q ks (looseS q) _ (Nat.le_refl _)
  rw [← crashA_eq] at h1
  have h2 := dirAll_ind (P := fun x => x.room = (crashA q ks).1.room) ({ (crashA q ks).1 with loose := [] }, (crashA q ks).2) (dirsS (crashA q ks).1) rfl (fun q cs h => (keepQ_same q cs).2.2.2.1.trans h) _ (Nat.le_refl _)
  rw [← crashB_eq] at h2
  exact h2.trans h1
theorem RScr.crash {q : Q} {N : Nat} {rm : Int} (H : RScr q N rm) (ks : List Int) : RScr (crashQ q ks) N rm := by
  obtain ⟨h, hh⟩ := H.home
  exact ⟨H.small.crash ks, ⟨h, hh.crash H.small ks⟩, (crashQ_room q ks).trans H.room⟩
/-! ### Read, whether there is a file or not -/
def rdE (q : Q) (p : Bs) : Int := if (readQ q p).isSome then 0 else 60
def rdB (q : Q) (p : Bs) : Bs := (readQ q p).getD []
theorem Seen.rdE {q q' : Q} (h : Seen q q') (p : Bs) : Go.Proofs.YtbodkjifpmencaaGreat.rdE q' p = Go.Proofs.YtbodkjifpmencaaGreat.rdE q p := by unfold Go.Proofs.YtbodkjifpmencaaGreat.rdE; rw [h.read]
theorem Seen.rdB {q q' : Q} (h : Seen q q') (p : Bs) : Go.Proofs.YtbodkjifpmencaaGreat.rdB q' p = Go.Proofs.YtbodkjifpmencaaGreat.rdB q p := by unfold Go.Proofs.YtbodkjifpmencaaGreat.rdB; rw [h.read]
theorem side_readv {S : Nat → Prop} {w0 W : World} {D N : Nat} {q : Q} (hlt : ∀ b, S b → b < w0.heap.size) (M : MineS S w0 D q W) (hS : Small N q) (hN : N ≤ 1048576) (s : ByteArray) (hs : s.size ≤ 281474976710656) (b : Bs) (e : Int) (hb : rdB q s.data.toList = b) (he : rdE q s.data.toList = e) :
    Calls Tryz.prog 10 #[.pointer (some ⟨D, 0, none⟩), .string s] W fun x w' => ∃ A c, x = .returned (.tuple #[.slice A b.length c, .int .i64 e]) ∧ OwnB w' W.heap.size (.slice A b.length c) b ∧ Below W.heap.size W w' ∧ MineS S w0 D q w' := by
  unfold rdB at hb
  unfold rdE at he
  have M' := M
  obtain ⟨L, rfl, h2, h3, h4⟩ := M
  refine (read_any h2 hS hN s hs).mono fun x w' ⟨k1, k2⟩ => ?_
  cases hl : look q.names s.data.toList with
  | none =>
    rw [hl] at k1
    have hr : readQ q s.data.toList = none := by unfold readQ; rw [hl]; rfl
    rw [hr] at hb he
    subst hb he
    exact ⟨none, 0, k1, World.ownsRow_nil _ _ _ _, k2, M'.below hlt k2⟩
  | some k =>
    rw [hl] at k1
    have hr : readQ q s.data.toList = some (qbody q k).now := by unfold readQ; rw [hl]; rfl
    rw [hr] at hb he
    obtain ⟨v, k3, k4⟩ := k1
    obtain ⟨A, c, rfl, _⟩ := k4.read
    subst hb he
    exact ⟨A, c, k3, k4, k2, M'.below hlt k2⟩
theorem side_used2 {S : Nat → Prop} {w0 W : World} {D N : Nat} {q : Q} (hlt : ∀ b, S b → b < w0.heap.size) (M : MineS S w0 D q W) (hS : Small N q) (hN : N ≤ 1048576) (u : Nat) (hu : usedQ q = u) :
    Calls Tryz.prog 12 #[.pointer (some ⟨D, 0, none⟩)] W fun x w' => x = .returned (.int .i64 (u : Int)) ∧ Below W.heap.size W w' ∧ MineS S w0 D q w' := by
  have M' := M
  obtain ⟨L, rfl, h2, h3, h4⟩ := M
  subst hu
  exact (used_any h2 hS hN).mono fun x w' ⟨k1, k2⟩ => ⟨k1, k2, M'.below hlt k2⟩
end Go.Proofs.YtbodkjifpmencaaGreat
namespace Go.Proofs.YtbodkjifpmencaaGreat
open Go.RowKit
open Go.Lib

def doQ (q : Q) (o : OpR) : Q := if kindQ o = 7 then crashQ q o.ks else (tryQ q o).2
theorem do_any {S T : Nat → Prop} {w0 W : World} {D X N : Nat} {q : Q} (M : MineT S T w0 D q W) (hX : EmptyD X W) (hT : T X) (o : OpR) (hok : OpOk W o) (hbl : o.b.length ≤ 10000000) (hk6 : kindQ o ≠ 6) (hS : Small N q) (hN : N + 3 + o.b.length ≤ 1048576) (hp : o.path.size ≤ 281474976710656) (ht : o.tgt.size ≤ 281474976710656) (hbS : 0 < o.b.length → ∀ x, aBlock o.bA = some x → S x) (hkl : o.ks.length ≤ 1048576) (hkS : 0 < o.ks.length → ∀ x, aBlock o.kA = some x → S x) :
    Calls Tryz.prog 9 #[.pointer (some ⟨D, 0, none⟩), .pointer (some ⟨X, 0, none⟩), opAgg o] W fun e w' => (∃ b, e = .returned (.bool b)) ∧ MineT S T w0 D (doQ q o) w' := by
  have h8 := kindQ_lt o
  unfold doQ
  by_cases h7 : kindQ o = 7
  · rw [if_pos h7]
    exact do_crash M hX hT o hok hbl h7 hS (by omega) hkl hkS
  · rw [if_neg h7]
    have hh : kindQ o = 0 ∨ kindQ o = 1 ∨ kindQ o = 2 ∨ kindQ o = 3 ∨ kindQ o = 4 ∨ kindQ o = 5 := by omega
    rcases hh with h | h | h | h | h | h
    · exact do_write M hX hT o hok hbl h hS hN hp ht hbS
    · exact do_append M hX hT o hok hbl h hS hN hp ht hbS
    · exact do_rename M hX hT o hok hbl h hS hN hp ht hbS
    · exact do_remove M hX hT o hok hbl h hS hN hp ht hbS
    · exact do_sync M hX hT o hok hbl h hS hN hp ht hbS
    · exact do_syncDir M hX hT o hok hbl h hS hN hp ht hbS
theorem small_try {N : Nat} {q : Q} (H : Small N q) (o : OpR) : Small (N + 3 + o.b.length) (tryQ q o).2 := by
  unfold tryQ
  split
  · exact H.write _ _
  · split
    · exact (H.append _ _).mono (by omega)
    · split
      · exact (H.rename _ _).mono (by omega)
      · split
        · exact (H.remove _).mono (by omega)
        · split
          · exact (H.sync _).mono (by omega)
          · exact (H.syncDir _).mono (by omega)
theorem small_do {N : Nat} {q : Q} (H : Small N q) (o : OpR) : Small (N + 3 + o.b.length) (doQ q o) := by
  unfold doQ
  split
  · exact (H.crash _).mono (by omega)
  · exact small_try H o
theorem Held.do {P : Bs} {k : Nat} {b : Bs} {q : Q} (H : Held P k b q) {N : Nat} (hS : Small N q) (o : OpR) (hp : o.path.data.toList ≠ P) (ht : o.tgt.data.toList ≠ P) : Held P k b (doQ q o) := by
  unfold doQ
  split
  · exact H.crash hS _
  · exact H.try o hp ht
theorem Held.rdE {P : Bs} {k : Nat} {b : Bs} {q : Q} (H : Held P k b q) : Go.Proofs.YtbodkjifpmencaaGreat.rdE q P = 0 := by unfold Go.Proofs.YtbodkjifpmencaaGreat.rdE; rw [H.read]; rfl
theorem Held.rdB {P : Bs} {k : Nat} {b : Bs} {q : Q} (H : Held P k b q) : Go.Proofs.YtbodkjifpmencaaGreat.rdB q P = b := by unfold Go.Proofs.YtbodkjifpmencaaGreat.rdB; rw [H.read]; rfl
theorem q1_small (b : Bs) (hb : b.length ≤ 2000) : Small 2003 (q1K b) := by
  have h := (Small.new 1048576 (by decide)).write keptP b
  rw [keeps_w b hb] at h
  exact h.mono (by omega)
theorem q2_small (b : Bs) (hb : b.length ≤ 2000) : Small 2003 (q2K b) := by
  have h := (q1_small b hb).sync keptP
  rw [keeps_s b] at h
  exact h
theorem q3_small (b : Bs) (hb : b.length ≤ 2000) : Small 2003 (q3K b) := by
  have h := (q2_small b hb).syncDir [122]
  rw [keeps_d b] at h
  exact h
end Go.Proofs.YtbodkjifpmencaaGreat
namespace Go.Proofs.YtbodkjifpmencaaGreat
open Go.RowKit
open Go.Lib

theorem bs_back (s : ByteArray) : bs s.data.toList = s := by
  unfold bs
  apply ByteArray.ext
  rfl
def tryR (r : R) (o : OpR) : Int × R :=
  if kindQ o = 0 then writeR r o.path.data.toList o.b
  else if kindQ o = 1 then appendR r o.path.data.toList o.b
  else if kindQ o = 2 then renameR r o.path.data.toList o.tgt.data.toList
  else if kindQ o = 3 then removeR r o.path.data.toList
  else if kindQ o = 4 then syncR r o.path.data.toList
  else syncDirR r o.path.data.toList
theorem Dbl.try {N : Nat} {q : Q} {r : R} (D : Dbl N q r) (o : OpR) : (tryR r o).1 = (tryQ q o).1 ∧ Dbl (N + 3 + o.b.length) (tryQ q o).2 (tryR r o).2 := by
  unfold tryR tryQ
  split
  · exact D.write _ _
  · split
    · exact D.append _ _
    · split
      · exact ⟨(D.rename _ _).1, (D.rename _ _).2.mono (by omega)⟩
      · split
        · exact ⟨(D.remove _).1, (D.remove _).2.mono (by omega)⟩
        · split
          · exact ⟨(D.sync _).1, (D.sync _).2.mono (by omega)⟩
          · exact ⟨(D.syncDir _).1, (D.syncDir _).2.mono (by omega)⟩
def actQ (q : Q) (o : OpR) : Q := if kindQ o = 6 then failQ q o.n (decide (0 < o.b.length)) else if kindQ o = 7 then crashQ q o.ks else (tryQ q o).2
def actR (q : Q) (r : R) (o : OpR) : R := if kindQ o = 6 then failR r o.n (decide (0 < o.b.length)) else if kindQ o = 7 then crashR r o.ks (dirsS q) else (tryR r o).2
theorem Dbl.act {N : Nat} {q : Q} {r : R} (D : Dbl N q r) (o : OpR) (h0 : -9223372036854775808 ≤ o.n) (h1 : o.n ≤ 9223372036854775807) : Dbl (N + 3 + o.b.length) (actQ q o) (actR q r o) := by
  unfold actQ actR
  split
  · exact (D.fail _ _ h0 h1).mono (by omega)
  · split
    · exact (D.crash _).mono (by omega)
    · exact (D.try o).2
/-- The calls that are still to be made ahead of a failure. -/
def COk (r : R) : Prop := 0 ≤ r.calls ∧ r.calls ≤ 9223372036854775807
theorem COk.call {r : R} (h : COk r) (b : Bool) : COk (callR r b).2 := by
  unfold COk at *
  unfold callR
  split
  · split
    · split
      · exact ⟨by show 0 ≤ r.calls - 1; omega, by show r.calls - 1 ≤ _; omega⟩
      · exact h
    · exact h
  · exact h
theorem COk.write {r : R} (h : COk r) (p b : Bs) : COk (writeR r p b).2 := by
  unfold writeR
  have h2 := h.call (rightL p)
  generalize callR r (rightL p) = c at h2
  obtain ⟨e, r1⟩ := c
  dsimp only at h2 ⊢
  split
  · split <;> exact h2
  · exact h2
theorem COk.append {r : R} (h : COk r) (p b : Bs) : COk (appendR r p b).2 := by
  unfold appendR
  have h2 := h.call (rightL p)
  generalize callR r (rightL p) = c at h2
  obtain ⟨e, r1⟩ := c
  dsimp only at h2 ⊢
  split
  · split
    · exact h2
    · split <;> exact h2
  · exact h2
theorem COk.rename {r : R} (h : COk r) (p t : Bs) : COk (renameR r p t).2 := by
  unfold renameR
  have h2 := h.call (rightL p && rightL t && dirL p == dirL t)
  generalize callR r (rightL p && rightL t && dirL p == dirL t) = c at h2
  obtain ⟨e, r1⟩ := c
  dsimp only at h2 ⊢
  split
  · split
    · exact h2
    · dsimp only
      split <;> exact h2
  · exact h2
theorem COk.remove {r : R} (h : COk r) (p : Bs) : COk (removeR r p).2 := by
  unfold removeR
  have h2 := h.call (rightL p)
  generalize callR r (rightL p) = c at h2
  obtain ⟨e, r1⟩ := c
  dsimp only at h2 ⊢
  split
  · split <;> exact h2
  · exact h2
theorem COk.sync {r : R} (h : COk r) (p : Bs) : COk (syncR r p).2 := by
  unfold syncR
  have h2 := h.call (rightL p)
  generalize callR r (rightL p) = c at h2
  obtain ⟨e, r1⟩ := c
  dsimp only at h2 ⊢
  split
  · split <;> exact h2
  · exact h2
theorem COk.syncDir {r : R} (h : COk r) (d : Bs) : COk (syncDirR r d).2 := by
  unfold syncDirR
  have h2 := h.call (d == [] || isPartL d)
  generalize callR r (d == [] || isPartL d) = c at h2
  obtain ⟨e, r1⟩ := c
  dsimp only at h2 ⊢
  split
  · exact h2
  · exact h2
theorem COk.fail {r : R} (calls : Int) (once : Bool) (h1 : calls ≤ 9223372036854775807) : COk (failR r calls once) := ⟨by show 0 ≤ max calls 0; omega, by show max calls 0 ≤ _; omega⟩
theorem stay1_calls (s : R × List Int) (k : Nat) : (stay1R s k).1.calls = s.1.calls := by
  unfold stay1R
  split <;> rfl
theorem stayAll_calls (r : R) (ks : List Int) : ∀ i, (stayAllR r ks i).1.calls = r.calls
  | 0 => rfl
  | i + 1 => by rw [stayAllR_succ, stay1_calls, stayAll_calls r ks i]
theorem dirFold_calls : ∀ (l : List Bs) (s : R × List Int), (l.foldl keepDir1R s).1.calls = s.1.calls
  | [], s => rfl
  | d :: l, s => by rw [List.foldl_cons, dirFold_calls l]; rfl
theorem COk.crash {r : R} (h : COk r) (ks : List Int) (l : List Bs) : COk (crashR r ks l) := by
  have e : (crashR r ks l).calls = r.calls := by
    show (dirAllR (stayAllR r ks r.bodies.length) l l.length).1.calls = r.calls
    unfold dirAllR
    rw [dirFold_calls, stayAll_calls]
  unfold COk
  rw [e]
  exact h
theorem COk.act {r : R} (h : COk r) (q : Q) (o : OpR) (h1 : o.n ≤ 9223372036854775807) : COk (actR q r o) := by
  unfold actR
  split
  · exact COk.fail _ _ h1
  · split
    · exact h.crash _ _
    · unfold tryR
      split
      · exact h.write _ _
      · split
        · exact h.append _ _
        · split
          · exact h.rename _ _
          · split
            · exact h.remove _
            · split
              · exact h.sync _
              · exact h.syncDir _
theorem le_usedK (r : R) : ∀ (l : Nm) (x : Bs × Nat), x ∈ l → (rbody r x.2).now.length ≤ (l.map fun x => (rbody r x.2).now.length).sum
  | y :: l, x, h => by
    rw [List.map_cons, List.sum_cons]
    rcases List.mem_cons.1 h with rfl | h
    · omega
    · have := le_usedK r l x h
      omega
theorem look_used (r : R) (p : Bs) (k : Nat) (h : look r.names p = some k) : (rbody r k).now.length ≤ usedR r := le_usedK r r.names (p, k) (look_mem h)
/-- What the document's calls ask. -/
theorem ROk.of {N : Nat} {q : Q} {r : R} (D : Dbl N q r) (hN : N ≤ 250000) (C : COk r) : ROk r :=
  ⟨Nat.le_trans D.rnames (by omega), Nat.le_trans D.rsm.nc (by omega), fun x hx => (D.rname hx).2, C.1, C.2, by
    have := D.rused
    have h2 : N * N ≤ 250000 * 250000 := Nat.mul_le_mul hN hN
    omega⟩
end Go.Proofs.YtbodkjifpmencaaGreat
namespace Go.Proofs.YtbodkjifpmencaaGreat
open Go.RowKit
open Go.Lib

theorem MineT.grow {S T : Nat → Prop} {w0 W W' : World} {D : Nat} {q : Q} (M : MineT S T w0 D q W) (o : Off T W W') : MineT S (fun b => T b ∨ (W.heap.size ≤ b ∧ b < W'.heap.size)) w0 D q W' := by
  have M2 := M.own o
  obtain ⟨⟨L, k1, k2, _, k4⟩, h2, h3, h4⟩ := M
  obtain ⟨_, g2, g3, _⟩ := M2
  refine ⟨⟨L, k1, k2.off o (fun b hb hf => k4 b hf (.inr hb)), Off.refl _ _, fun b hf hS => ?_⟩, g2, fun b h => ?_, fun b h hs => ?_⟩
  · rcases hS with h | h | h
    · exact k4 b hf (.inl h)
    · exact k4 b hf (.inr h)
    · have := k2.foot_lt hf
      omega
  · rcases h with h | h | h
    · exact g3 b (.inl h)
    · exact g3 b (.inr h)
    · exact h.2
  · rcases h with h | h
    · exact h4 b h hs
    · have := h3 b (.inl hs)
      omega
/-- Both disks, and a slice of the call's own. -/
def OwnD (S T U : Nat → Prop) (w0 : World) (D X : Nat) (q : Q) (r : R) (v : Value) (n : Nat) (W : World) : Prop :=
  OwnT S T w0 D q v n W ∧ (∃ G, RD U X G r W) ∧ (∀ b, U b → T b) ∧ ∀ b, v.ownBlock = some b → ¬ U b
/-- The document's call has been made behind the program's. -/
theorem OwnD.of {S T U : Nat → Prop} {w0 W W' : World} {D X n : Nat} {q : Q} {r : R} {v : Value} (h : OwnT S T w0 D q v n W) (hU : ∀ b, U b → T b) (hv : ∀ b, v.ownBlock = some b → ¬ U b ∧ b < W.heap.size) (hR : Rs U X r W W') : OwnD S (fun b => T b ∨ (W.heap.size ≤ b ∧ b < W'.heap.size)) (More U W W') w0 D X q r v n W' := by
  obtain ⟨h1, zs, h2, h3, h4⟩ := h
  refine ⟨⟨h1.grow (hR.2.mono hU), zs, own_off h2 hR.2 (fun b hb => (hv b hb).1), h3, fun b hb => .inl (h4 b hb)⟩, hR.1, fun b hb => hb.elim (fun h => .inl (hU b h)) .inr, fun b hb hm => ?_⟩
  rcases hm with hm | hm
  · exact (hv b hb).1 hm
  · have := (hv b hb).2
    omega
theorem OwnD.turn {S T U : Nat → Prop} {w0 W : World} {D X n c g : Nat} {q : Q} {r : R} (h : OwnD S T U w0 D X q r (.slice (some ⟨g, 0, none⟩) n c) n W) (j : Nat) (z : Int) : OwnD S T U w0 D X q r (.slice (some ⟨g, 0, none⟩) n c) n (W.setCell ⟨g, j, none⟩ (.int .u8 z)) := by
  obtain ⟨h1, ⟨G, hG⟩, h3, h4⟩ := h
  exact ⟨h1.turn j z, ⟨G, hG.off (off_set W g j (.int .u8 z)) (fun b hb e => by subst e; exact h4 b rfl hb)⟩, h3, h4⟩
/-- Both disks in one world. -/
def Both (S : Nat → Prop) (w0 : World) (D X : Nat) (q : Q) (r : R) (W : World) : Prop :=
  ∃ T U : Nat → Prop, MineT S T w0 D q W ∧ (∃ G, RD U X G r W) ∧ ∀ b, U b → T b
theorem OwnD.both {S T U : Nat → Prop} {w0 W : World} {D X n : Nat} {q : Q} {r : R} {v : Value} (h : OwnD S T U w0 D X q r v n W) : Both S w0 D X q r W := ⟨T, U, h.1.mine, h.2.1, h.2.2.1⟩
theorem Both.below {S : Nat → Prop} {w0 W W' : World} {D X : Nat} {q : Q} {r : R} (h : Both S w0 D X q r W) (hb : Below W.heap.size W W') : Both S w0 D X q r W' := by
  obtain ⟨T, U, M, ⟨G, hG⟩, hU⟩ := h
  exact ⟨T, U, M.below hb, ⟨G, hG.off (Off.of_below hb) (fun _ _ h => h)⟩, hU⟩
/-- A call of the program's disk that leaves the other alone. -/
theorem Both.ret {S T U : Nat → Prop} {w0 W W' : World} {D X : Nat} {q q' : Q} {r : R} (M : MineT S T w0 D q W) (hR : ∃ G, RD U X G r W) (hU : ∀ b, U b → T b) (M' : MineS (fun b => S b ∨ T b) W D q' W') : Both S w0 D X q' r W' := by
  obtain ⟨G, hG⟩ := hR
  exact ⟨T, U, M.ret M', ⟨G, hG.off M'.off (fun b hb hn => hn (.inr (hU b hb)))⟩, hU⟩
/-! ### The document's calls, as the law makes them -/
section
variable {U : Nat → Prop} {X N : Nat} {q : Q} {r : R} {W : World}
theorem ref_write (hR : ∃ G, RD U X G r W) (hU : ∀ b, U b → b < W.heap.size) (D : Dbl N q r) (hN : N ≤ 250000) (C : COk r) (p t : ByteArray) (b : Bs) (hp : p.size ≤ 1000) (ht : bs b = t) (hb : b.length ≤ 10000000) (e7 : Int) (r7 : R) (h1 : (writeR r p.data.toList b).1 = e7) (h2 : (writeR r p.data.toList b).2 = r7) :
    Calls Tryz.prog 25 #[.pointer (some ⟨X, 0, none⟩), .string p, .string t] W fun e w' => e = .returned (.int .i64 e7) ∧ Rs U X r7 W w' := by
  obtain ⟨G, hG⟩ := hR
  subst h1 h2 ht
  have := rwrite_any hG hU (ROk.of D hN C) p.data.toList b (by have := bs_size p.data.toList; rw [bs_back] at this; omega) hb (Nat.le_trans D.rsm.nb (by omega)) (fun k hk => look_used r _ k hk)
  rwa [bs_back] at this
theorem ref_append (hR : ∃ G, RD U X G r W) (hU : ∀ b, U b → b < W.heap.size) (D : Dbl N q r) (hN : N ≤ 250000) (C : COk r) (p t : ByteArray) (b : Bs) (hp : p.size ≤ 1000) (ht : bs b = t) (hb : b.length ≤ 10000000) (e7 : Int) (r7 : R) (h1 : (appendR r p.data.toList b).1 = e7) (h2 : (appendR r p.data.toList b).2 = r7) :
    Calls Tryz.prog 26 #[.pointer (some ⟨X, 0, none⟩), .string p, .string t] W fun e w' => e = .returned (.int .i64 e7) ∧ Rs U X r7 W w' := by
  obtain ⟨G, hG⟩ := hR
  subst h1 h2 ht
  have := rappend_any hG hU (ROk.of D hN C) p.data.toList b (by have := bs_size p.data.toList; rw [bs_back] at this; omega) hb (fun k => by have := (rbody_ok D.rsm k).1; omega)
  rwa [bs_back] at this
theorem ref_rename (hR : ∃ G, RD U X G r W) (hU : ∀ b, U b → b < W.heap.size) (D : Dbl N q r) (hN : N ≤ 250000) (C : COk r) (p t : ByteArray) (hp : p.size ≤ 1000) (ht : t.size ≤ 1000) (e7 : Int) (r7 : R) (h1 : (renameR r p.data.toList t.data.toList).1 = e7) (h2 : (renameR r p.data.toList t.data.toList).2 = r7) :
    Calls Tryz.prog 28 #[.pointer (some ⟨X, 0, none⟩), .string p, .string t] W fun e w' => e = .returned (.int .i64 e7) ∧ Rs U X r7 W w' := by
  obtain ⟨G, hG⟩ := hR
  subst h1 h2
  have := rrename_any hG hU (ROk.of D hN C) p.data.toList t.data.toList (by have := bs_size p.data.toList; rw [bs_back] at this; omega) (by have := bs_size t.data.toList; rw [bs_back] at this; omega)
  rwa [bs_back, bs_back] at this
theorem ref_remove (hR : ∃ G, RD U X G r W) (hU : ∀ b, U b → b < W.heap.size) (D : Dbl N q r) (hN : N ≤ 250000) (C : COk r) (p : ByteArray) (hp : p.size ≤ 1000) (e7 : Int) (r7 : R) (h1 : (removeR r p.data.toList).1 = e7) (h2 : (removeR r p.data.toList).2 = r7) :
    Calls Tryz.prog 30 #[.pointer (some ⟨X, 0, none⟩), .string p] W fun e w' => e = .returned (.int .i64 e7) ∧ Rs U X r7 W w' := by
  obtain ⟨G, hG⟩ := hR
  subst h1 h2
  have := rremove_any hG hU (ROk.of D hN C) p.data.toList (by have := bs_size p.data.toList; rw [bs_back] at this; omega)
  rwa [bs_back] at this
theorem ref_sync (hR : ∃ G, RD U X G r W) (hU : ∀ b, U b → b < W.heap.size) (D : Dbl N q r) (hN : N ≤ 250000) (C : COk r) (p : ByteArray) (hp : p.size ≤ 1000) (e7 : Int) (r7 : R) (h1 : (syncR r p.data.toList).1 = e7) (h2 : (syncR r p.data.toList).2 = r7) :
    Calls Tryz.prog 31 #[.pointer (some ⟨X, 0, none⟩), .string p] W fun e w' => e = .returned (.int .i64 e7) ∧ Rs U X r7 W w' := by
  obtain ⟨G, hG⟩ := hR
  subst h1 h2
  have := rsync_any hG hU (ROk.of D hN C) p.data.toList (by have := bs_size p.data.toList; rw [bs_back] at this; omega)
  rwa [bs_back] at this
theorem ref_syncDir (hR : ∃ G, RD U X G r W) (hU : ∀ b, U b → b < W.heap.size) (D : Dbl N q r) (hN : N ≤ 250000) (C : COk r) (p : ByteArray) (hp : p.size ≤ 1000) (e7 : Int) (r7 : R) (h1 : (syncDirR r p.data.toList).1 = e7) (h2 : (syncDirR r p.data.toList).2 = r7) :
    Calls Tryz.prog 32 #[.pointer (some ⟨X, 0, none⟩), .string p] W fun e w' => e = .returned (.int .i64 e7) ∧ Rs U X r7 W w' := by
  obtain ⟨G, hG⟩ := hR
  subst h1 h2
  have := rsyncDir_any hG hU (ROk.of D hN C) (by have := D.rsm.nc; have := D.rkepts; omega) (by have := D.rsm.nc; have := D.rkepts; omega) D.rsm.ch p.data.toList (by have := bs_size p.data.toList; rw [bs_back] at this; omega)
  rwa [bs_back] at this
end
end Go.Proofs.YtbodkjifpmencaaGreat
