/-
  The law's same of two rows that hold the same texts; what a script keeps true where calls may fail and crashes come to pass. No conditions.
-/
import Derived.Test.YtbodkjifpmencaaGreatVDo
import Derived.Test.YtbodkjifpmencaaGreatVfR
import Derived.BigQuiet
namespace Go.Proofs.YtbodkjifpmencaaGreat
open Go.RowKit
open Go.Lib

set_option maxRecDepth 100000 in
set_option maxHeartbeats 1000000 in
theorem same_any {A A' : Option Addr} {c c' n : Nat} {ls : List Bs} (w : World) (hn : ls.length = n) (hn1 : n ≤ 1048576) (h : RT w A ls) (h' : RT w A' ls) :
    Calls Tryz.prog 15 #[.slice A n c, .slice A' n c'] w fun e w' => e = .returned (.bool true) ∧ Below w.heap.size w w' := by
  have H := Lib.hid h
  have H' := Lib.hid h'
  have HN := Lib.hid hn
  clear h h' hn
  go_enter Tryz.func15, Tryz.ntmps15
  go_wp2
  go_loopw [13] (fun i wr => ∃ j : Nat, j ≤ n ∧ i = .int .i64 (j : Int) ∧ Below w.heap.size w wr) (fun i _ => n - (RowKit.intOf i).toNat)
  case atStart => exact ⟨0, by omega, rfl, Below.refl _ _⟩
  case round =>
    obtain ⟨j, hj, rfl, hb⟩ := hrel
    by_cases hjn : j < n
    · have hjl : j < ls.length := by rw [HN.out]; exact hjn
      obtain ⟨b, off, rfl, hbl, hcs⟩ := H.out (by omega)
      obtain ⟨b', off', rfl, hbl', hcs'⟩ := H'.out (by omega)
      have e1 := (Off.of_below hb).cell (hcs j hjl) (fun h => h)
      have e2 := (Off.of_below hb).cell (hcs' j hjl) (fun h => h)
      obtain ⟨P, hP⟩ : ∃ x, bs ls[j] = x := ⟨_, rfl⟩
      rw [hP] at e1 e2
      have hi0 : (0 : Int) ≤ (j : Int) := by omega
      have hi1 : (j : Int) < (n : Int) := by omega
      clear hcs hcs' hP
      have te : (P.toList == P.toList) = true := by simp
      go_wp2_with fail
      go_quiet (fail)
      go_wp2
      go_roundw
      case rel => exact ⟨j + 1, by omega, by go_num, below_drewN hb _⟩
      case measure => simp [RowKit.intOf]; omega
    · obtain rfl : j = n := by omega
      go_wp2
      go_ret
      exact ⟨rfl, hb⟩
/-! ### What a script keeps true -/
structure RScr (q : Q) (N : Nat) (rm : Int) : Prop where
  small : Small N q
  home : ∃ h, Home h q
  room : q.room = rm
theorem RScr.new (rm : Nat) (h : rm ≤ 9223372036854775807) : RScr (qNew rm) 0 rm := ⟨Small.new _ (by omega), ⟨_, Home.new _⟩, by show max (rm : Int) 0 = rm; omega⟩
theorem RScr.mono {q : Q} {N M : Nat} {rm : Int} (h : RScr q N rm) (hm : N ≤ M) : RScr q M rm := ⟨h.small.mono hm, h.home, h.room⟩
theorem RScr.try {q : Q} {N : Nat} {rm : Int} (H : RScr q N rm) (o : OpR) : RScr (tryQ q o).2 (N + 3 + o.b.length) rm := by
  refine ⟨?_, ?_, (try_room q o).trans H.room⟩
  · unfold tryQ
    split
    · exact H.small.write _ _
    · split
      · exact (H.small.append _ _).mono (by omega)
      · split
        · exact (H.small.rename _ _).mono (by omega)
        · split
          · exact (H.small.remove _).mono (by omega)
          · split
            · exact (H.small.sync _).mono (by omega)
            · exact (H.small.syncDir _).mono (by omega)
  · obtain ⟨h, hh⟩ := H.home
    unfold tryQ
    split
    · exact hh.write H.small _ _
    · split
      · exact ⟨h, hh.append _ _⟩
      · split
        · exact ⟨h, hh.rename _ _⟩
        · split
          · exact ⟨h, hh.remove _⟩
          · split
            · exact ⟨h, hh.sync _⟩
            · exact ⟨h, hh.syncDir _⟩
theorem RScr.fail {q : Q} {N : Nat} {rm : Int} (H : RScr q N rm) (calls : Int) (once : Bool) (h0 : -9223372036854775808 ≤ calls) (h1 : calls ≤ 9223372036854775807) : RScr (failQ q calls once) N rm := by
  obtain ⟨h, hh⟩ := H.home
  exact ⟨H.small.fail _ _ h0 h1, ⟨h, hh.same rfl rfl rfl⟩, H.room⟩
theorem crashQ_room (q : Q) (ks : List Int) : (crashQ q ks).room = q.room := by
  have h1 := stayAll_room q ks (looseS q) _ (Nat.le_refl _)
  rw [← crashA_eq] at h1
  have h2 := dirAll_ind (P := fun x => x.room = (crashA q ks).1.room) ({ (crashA q ks).1 with loose := [] }, (crashA q ks).2) (dirsS (crashA q ks).1) rfl (fun q cs h => (keepQ_same q cs).2.2.2.1.trans h) _ (Nat.le_refl _)
  rw [← crashB_eq] at h2
  exact h2.trans h1
theorem RScr.crash {q : Q} {N : Nat} {rm : Int} (H : RScr q N rm) (ks : List Int) : RScr (crashQ q ks) N rm := by
  obtain ⟨h, hh⟩ := H.home
  exact ⟨H.small.crash ks, ⟨h, hh.crash H.small ks⟩, (crashQ_room q ks).trans H.room⟩
/-! ### Read, whether there is a file or not -/
def rdE (q : Q) (p : Bs) : Int := if (readQ q p).isSome then 0 else 60
def rdB (q : Q) (p : Bs) : Bs := (readQ q p).getD []
theorem Seen.rdE {q q' : Q} (h : Seen q q') (p : Bs) : Go.Proofs.YtbodkjifpmencaaGreat.rdE q' p = Go.Proofs.YtbodkjifpmencaaGreat.rdE q p := by unfold Go.Proofs.YtbodkjifpmencaaGreat.rdE; rw [h.read]
theorem Seen.rdB {q q' : Q} (h : Seen q q') (p : Bs) : Go.Proofs.YtbodkjifpmencaaGreat.rdB q' p = Go.Proofs.YtbodkjifpmencaaGreat.rdB q p := by unfold Go.Proofs.YtbodkjifpmencaaGreat.rdB; rw [h.read]
theorem side_readv {S : Nat → Prop} {w0 W : World} {D N : Nat} {q : Q} (hlt : ∀ b, S b → b < w0.heap.size) (M : MineS S w0 D q W) (hS : Small N q) (hN : N ≤ 1048576) (s : ByteArray) (hs : s.size ≤ 281474976710656) (b : Bs) (e : Int) (hb : rdB q s.data.toList = b) (he : rdE q s.data.toList = e) :
    Calls Tryz.prog 10 #[.pointer (some ⟨D, 0, none⟩), .string s] W fun x w' => ∃ A c, x = .returned (.tuple #[.slice A b.length c, .int .i64 e]) ∧ OwnB w' W.heap.size (.slice A b.length c) b ∧ Below W.heap.size W w' ∧ MineS S w0 D q w' := by
  unfold rdB at hb
  unfold rdE at he
  have M' := M
  obtain ⟨L, rfl, h2, h3, h4⟩ := M
  refine (read_any h2 hS hN s hs).mono fun x w' ⟨k1, k2⟩ => ?_
  cases hl : look q.names s.data.toList with
  | none =>
    rw [hl] at k1
    have hr : readQ q s.data.toList = none := by unfold readQ; rw [hl]; rfl
    rw [hr] at hb he
    subst hb he
    exact ⟨none, 0, k1, World.ownsRow_nil _ _ _ _, k2, M'.below hlt k2⟩
  | some k =>
    rw [hl] at k1
    have hr : readQ q s.data.toList = some (qbody q k).now := by unfold readQ; rw [hl]; rfl
    rw [hr] at hb he
    obtain ⟨v, k3, k4⟩ := k1
    obtain ⟨A, c, rfl, _⟩ := k4.read
    subst hb he
    exact ⟨A, c, k3, k4, k2, M'.below hlt k2⟩
theorem side_used2 {S : Nat → Prop} {w0 W : World} {D N : Nat} {q : Q} (hlt : ∀ b, S b → b < w0.heap.size) (M : MineS S w0 D q W) (hS : Small N q) (hN : N ≤ 1048576) (u : Nat) (hu : usedQ q = u) :
    Calls Tryz.prog 12 #[.pointer (some ⟨D, 0, none⟩)] W fun x w' => x = .returned (.int .i64 (u : Int)) ∧ Below W.heap.size W w' ∧ MineS S w0 D q w' := by
  have M' := M
  obtain ⟨L, rfl, h2, h3, h4⟩ := M
  subst hu
  exact (used_any h2 hS hN).mono fun x w' ⟨k1, k2⟩ => ⟨k1, k2, M'.below hlt k2⟩
end Go.Proofs.YtbodkjifpmencaaGreat
