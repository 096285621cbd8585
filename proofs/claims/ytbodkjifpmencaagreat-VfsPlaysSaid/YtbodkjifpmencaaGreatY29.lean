/-
  Of the proof that disks answer every script as the document says: the parts VRD VDo. No conditions.
-/
import Derived.Test.YtbodkjifpmencaaGreatY17
import Derived.OwnWalk
namespace Go.Proofs.YtbodkjifpmencaaGreat
open Go.RowKit
open Go.Lib

/-- A disk at block D beside blocks (S) that are as at w0, and others (T) that are the call's own. -/
def MineT (S T : Nat → Prop) (w0 : World) (D : Nat) (q : Q) (W : World) : Prop :=
  MineS (fun b => S b ∨ T b) W D q W ∧ Off (fun b => ¬ S b) w0 W ∧ (∀ b, S b ∨ T b → b < W.heap.size) ∧ ∀ b, T b → ¬ S b
section
variable {S T T' : Nat → Prop} {w0 W W' : World} {D : Nat} {q q' : Q}
theorem MineT.of (hlt : ∀ b, S b → b < w0.heap.size) (M : MineS S w0 D q W) : MineT S (fun _ => False) w0 D q W :=
  ⟨M.re.less (fun _ h => h.elim id (fun h => h.elim)), M.off, fun b h => h.elim (fun h => Nat.lt_of_lt_of_le (hlt b h) M.off.size) (fun h => h.elim), fun _ h => h.elim⟩
theorem MineT.done (M : MineT S T w0 D q W) : MineS S w0 D q W := by
  obtain ⟨⟨L, k1, k2, _, k4⟩, h2, _, _⟩ := M
  exact ⟨L, k1, k2, h2, fun b hf hs => k4 b hf (.inl hs)⟩
theorem MineT.less (M : MineT S T w0 D q W) (h : ∀ b, T' b → T b) : MineT S T' w0 D q W :=
  ⟨M.1.less (fun b hb => hb.imp id (h b)), M.2.1, fun b hb => M.2.2.1 b (hb.imp id (h b)), fun b hb => M.2.2.2 b (h b hb)⟩
theorem MineT.ret (M : MineT S T w0 D q W) (M' : MineS (fun b => S b ∨ T b) W D q' W') : MineT S T w0 D q' W' :=
  ⟨M'.re, M.2.1.trans M'.off (fun _ hx => .inl (fun hs => hx (.inl hs))), fun b hb => Nat.lt_of_lt_of_le (M.2.2.1 b hb) M'.off.size, M.2.2.2⟩
theorem MineT.below (M : MineT S T w0 D q W) (hb : Below W.heap.size W W') : MineT S T w0 D q W' := M.ret (M.1.below M.2.2.1 hb)
theorem MineT.new (M : MineT S T w0 D q W) (hb : Below W.heap.size W W') : MineT S (fun b => T b ∨ (W.heap.size ≤ b ∧ b < W'.heap.size)) w0 D q W' := by
  have h := M.1.grow hb
  refine ⟨h.less (fun b hb => hb.elim (fun h => .inl (.inl h)) (fun h => h.elim (fun h => .inl (.inr h)) .inr)), (M.below hb).2.1, fun b h => ?_, fun b h hs => ?_⟩
  · have := hb.size
    rcases h with h | h | h
    · have := M.2.2.1 b (.inl h); omega
    · have := M.2.2.1 b (.inr h); omega
    · exact h.2
  · rcases h with h | h
    · exact M.2.2.2 b h hs
    · have := M.2.2.1 b (.inl hs); omega
theorem MineT.own (M : MineT S T w0 D q W) (o : Off T W W') : MineT S T w0 D q W' := by
  obtain ⟨⟨L, k1, k2, _, k4⟩, h2, h3, h4⟩ := M
  exact ⟨⟨L, k1, k2.off o (fun b hb hf => k4 b hf (.inr hb)), Off.refl _ _, k4⟩, h2.trans o (fun b hb => .inl (h4 b hb)), fun b hb => Nat.lt_of_lt_of_le (h3 b hb) o.size, h4⟩
end
/-- A slice that came in behind a new empty one. -/
theorem appIn {ops : Array Oper} {rest : List Oper} {o : Oper} {a : Act} {Q : Exit → Act → World → Prop} (hgd : o.guard = none) (s x : Operand)
    (ho : o.op = .call { callee := .builtin .append, args := #[s, x], argTypes := #[28, 28] }) (w : World) (l : Bs) (n c g : Nat) (A : Option Addr) (hg : w.heap.size = g) (hn : l.length = n) (hA : A = none → c = 0)
    (hs : a.eval s = .slice (some ⟨g, 0, none⟩) 0 0) (hx : a.eval x = .slice A n c) (hr : RB w A l) (hlen : n ≤ 10000000)
    (h : ∀ v w', OwnB w' w.heap.size v l → Below w.heap.size w w' → wpList Tryz.prog ops Q rest (a.put o.dst v) w') :
    wpList Tryz.prog ops Q (o :: rest) a (w.alloc (.cells #[] 5)) := by
  subst hg
  obtain ⟨i0, hi, hz0, hz1, hz2⟩ := info_parts Tryz.infoU8
  have hown : (w.alloc (.cells #[] 5)).ownsRow w.heap.size 5 1 (.slice (some ⟨w.heap.size, 0, none⟩) 0 0) 0 [] := World.ownsRow_made w #[] 0 (Nat.le_refl _) (by unfold maxLen; omega) rfl
  have hb := Below.refl w.heap.size w
  rcases Nat.eq_zero_or_pos l.length with h0 | h0
  · obtain rfl : l = [] := List.eq_nil_of_length_eq_zero h0
    obtain rfl : n = 0 := by simpa using hn.symm
    refine wpList_append_fits_any _ hgd s x 28 ho w.heap.size 5 i0 1 Tryz.underlying28 hi hz1 w.heap.size 0 0 [] hs hown A 0 c [] hx rfl (fun e => ⟨rfl, hA e⟩) (fun ad _ j u hj => by simp at hj) (fun u hu => by simp at hu) (Nat.le_refl _) ?_
    intro w' hown' hgrow
    exact h _ w' hown' ((hb.alloc (Nat.le_refl _) _).grown hgrow (by simp) (fun k hk => by cases hk; exact Nat.le_refl _))
  · obtain ⟨b, off, rfl, hbl, hc⟩ := hr h0
    refine wpList_append_own _ hgd s x 28 ho w.heap.size 5 i0 (.int .u8 0) 1 1 Tryz.underlying28 hi hz0 hz1 hz2 rfl (by decide) _ 0 [] hs hown ⟨b, off, none⟩ n c (cellsB l) hx (by rw [cellsB_length, hn, Nat.mul_one]) (fun j u hj => ?_) (cellsB_one _) (by unfold maxLen; omega) (by omega) (by simp) ?_
    · have hjl : j < l.length := by have := (List.getElem?_eq_some_iff.1 hj).1; rwa [cellsB_length] at this
      rw [Addr.add_mid]
      refine ((((Below.refl w.heap.size w).alloc (Nat.le_refl _) _).cell (p := ⟨b, off + j, none⟩) hbl).trans ?_)
      rw [hc j hjl, ← cellsB_at l j hjl]
      exact hj
    · intro v' w' hown' hgrow _
      refine h v' w' ?_ ((hb.alloc (Nat.le_refl _) _).grown hgrow (by simp) (fun k hk => by cases hk; exact Nat.le_refl _))
      unfold OwnB
      rw [hn]
      rw [Nat.zero_add, List.nil_append] at hown'
      exact hown'
/-- Each is a byte. -/
def AllU8 (zs : List Value) : Prop := ∀ u ∈ zs, ∃ z : Int, u = .int .u8 z
theorem AllU8.cells (l : Bs) : AllU8 (cellsB l) := fun u hu => by
  unfold cellsB at hu
  obtain ⟨x, _, rfl⟩ := List.mem_map.1 hu
  exact ⟨_, rfl⟩
theorem AllU8.set {zs : List Value} (h : AllU8 zs) (j : Nat) (z : Int) : AllU8 (zs.set j (.int .u8 z)) := fun u hu => by
  rcases List.mem_or_eq_of_mem_set hu with h' | h'
  · exact h u h'
  · exact ⟨z, h'⟩
/-- The call's own copy of an act's bytes, and the disk beside it. -/
def OwnT (S T : Nat → Prop) (w0 : World) (D : Nat) (q : Q) (v : Value) (n : Nat) (W : World) : Prop :=
  MineT S T w0 D q W ∧ ∃ zs, W.ownsRow 0 5 1 v n zs ∧ AllU8 zs ∧ ∀ b, v.ownBlock = some b → T b
theorem OwnT.ret {S T : Nat → Prop} {w0 : World} {D : Nat} {q q' : Q} {v : Value} {n : Nat} {W W' : World} (h : OwnT S T w0 D q v n W) (M : MineS (fun b => S b ∨ T b) W D q' W') : OwnT S T w0 D q' v n W' := by
  obtain ⟨h1, zs, h2, h3, h4⟩ := h
  exact ⟨h1.ret M, zs, own_off h2 M.off (fun b hb h => h (.inr (h4 b hb))), h3, h4⟩
theorem OwnT.below {S T : Nat → Prop} {w0 : World} {D : Nat} {q : Q} {v : Value} {n : Nat} {W W' : World} (h : OwnT S T w0 D q v n W) (hb : Below W.heap.size W W') : OwnT S T w0 D q v n W' := h.ret (h.1.1.below h.1.2.2.1 hb)
theorem OwnT.own {S T : Nat → Prop} {w0 : World} {D : Nat} {q : Q} {v : Value} {n X : Nat} {W W' : World} (h : OwnT S T w0 D q v n W) (g : W.grownBy W' (some X)) (hT : T X) (hne : v.ownBlock ≠ some X) : OwnT S T w0 D q v n W' := by
  obtain ⟨h1, zs, h2, h3, h4⟩ := h
  have o := Off.of_grown g
  exact ⟨h1.own (o.mono (fun b hb => by cases hb; exact hT)), zs, own_off h2 o (fun b hb e => hne (hb.trans e.symm)), h3, h4⟩
theorem OwnT.mine {S T : Nat → Prop} {w0 : World} {D : Nat} {q : Q} {v : Value} {n : Nat} {W : World} (h : OwnT S T w0 D q v n W) : MineT S T w0 D q W := h.1
theorem OwnT.lt {S T : Nat → Prop} {w0 : World} {D : Nat} {q : Q} {v : Value} {n : Nat} {W : World} (h : OwnT S T w0 D q v n W) : ∀ b, S b ∨ T b → b < W.heap.size := h.1.2.2.1
theorem OwnT.side {S T : Nat → Prop} {w0 : World} {D : Nat} {q : Q} {v : Value} {n : Nat} {W : World} (h : OwnT S T w0 D q v n W) : MineS (fun b => S b ∨ T b) W D q W := h.1.1
/-- One byte of the copy is turned. -/
theorem OwnT.turn {S T : Nat → Prop} {w0 : World} {D : Nat} {q : Q} {n c g : Nat} {W : World} (h : OwnT S T w0 D q (.slice (some ⟨g, 0, none⟩) n c) n W) (j : Nat) (z : Int) : OwnT S T w0 D q (.slice (some ⟨g, 0, none⟩) n c) n (W.setCell ⟨g, j, none⟩ (.int .u8 z)) := by
  obtain ⟨h1, zs, h2, h3, h4⟩ := h
  have hs := World.ownsRow.stored h2 j (.int .u8 z)
  exact ⟨h1.own ((Off.of_grown hs.2).mono (fun b hb => by cases hb; exact h4 g rfl)), _, hs.1, h3.set j z, h4⟩
theorem OwnT.form {S T : Nat → Prop} {w0 : World} {D : Nat} {q : Q} {v : Value} {n : Nat} {W : World} (h : OwnT S T w0 D q v n W) : ∃ A c, v = .slice A n c ∧ (0 < n → ∃ g, A = some ⟨g, 0, none⟩) := by
  obtain ⟨_, zs, h2, _, _⟩ := h
  rcases h2.2 with ⟨rfl, hn⟩ | ⟨g, cap, cur, rfl, _⟩
  · exact ⟨none, 0, by rw [hn], fun hz => absurd hz (by omega)⟩
  · exact ⟨_, cap, rfl, fun _ => ⟨g, rfl⟩⟩
theorem OwnT.at {S T : Nat → Prop} {w0 : World} {D : Nat} {q : Q} {n c g : Nat} {W : World} (h : OwnT S T w0 D q (.slice (some ⟨g, 0, none⟩) n c) n W) {j : Nat} (hj : j < n) : (∃ z : Int, W.cell? ⟨g, j, none⟩ = some (.int .u8 z)) ∧ W.frozen? ⟨g, j, none⟩ = false := by
  obtain ⟨_, zs, h2, h3, _⟩ := h
  have hl : zs.length = n := by simpa using h2.1
  have hc := World.ownsRow.cellAt h2 j (by omega)
  rw [List.getElem?_eq_getElem (by omega)] at hc
  obtain ⟨z, hz⟩ := h3 zs[j] (List.getElem_mem _)
  exact ⟨⟨z, by rw [hc, hz]⟩, World.ownsRow.frozenAt h2 j⟩
end Go.Proofs.YtbodkjifpmencaaGreat
namespace Go.Proofs.YtbodkjifpmencaaGreat
open Go.RowKit
open Go.Lib

set_option maxRecDepth 100000 in
set_option maxHeartbeats 4000000 in
theorem do_fail {S T : Nat → Prop} {w0 W : World} {D X : Nat} {q : Q} (M : MineT S T w0 D q W) (hX : EmptyD X W) (hT : T X) (o : OpR) (hok : OpOk W o) (hbl : o.b.length ≤ 10000000) (hk : kindQ o = 6) :
    Calls Tryz.prog 9 #[.pointer (some ⟨D, 0, none⟩), .pointer (some ⟨X, 0, none⟩), opAgg o] W fun e w' => (∃ b, e = .returned (.bool b)) ∧ MineT S T w0 D (failQ q o.n (decide (0 < o.b.length))) w' := by
  have hkq : (IntKind.u64.wrap o.kind).tmod 8 = 6 := hk
  obtain ⟨kd, p, t, bA, bc, b, n, kA, kc, ks⟩ := o
  have hrb := hok.rb
  have hnil := hok.nilb
  unfold opAgg
  dsimp only at *
  obtain ⟨nb, hnb⟩ : ∃ x, b.length = x := ⟨_, rfl⟩
  rw [hnb] at hbl ⊢
  obtain ⟨once, hon⟩ : ∃ x, decide (0 < nb) = x := ⟨_, rfl⟩
  rw [hon]
  have hon2 : decide ((0 : Int) < (nb : Int)) = once := by rw [← hon]; simp
  obtain ⟨B, hB⟩ : ∃ B, W.heap.size = B := ⟨_, rfl⟩
  obtain ⟨W1, hW1⟩ : ∃ V, W.alloc (.cells #[.int .i64 kd, .string p, .string t, .slice bA nb bc, .int .i64 n, .slice kA ks.length kc] 31) = V := ⟨_, rfl⟩
  have hbx := Blk.new (.cells #[.int .i64 kd, .string p, .string t, .slice bA nb bc, .int .i64 n, .slice kA ks.length kc] 31 (0, 0)) W
  have hb1 : Below W.heap.size W W1 := by rw [← hW1]; exact (Below.refl _ _).alloc (Nat.le_refl _) _
  have hz1 : W1.heap.size = B + 1 := by rw [← hW1, ← hB]; simp
  rw [hW1, hB] at hbx
  have hrb1 : RB W1 bA b := hrb.below hb1
  have c3 : (W1.alloc (.cells #[] 5)).cell? ⟨B, 3, none⟩ = some (.slice bA nb bc) := ((Below.refl W1.heap.size W1).alloc (Nat.le_refl _) _).cell (p := ⟨B, 3, none⟩) (by show B < _; omega) |>.trans (hbx.cell 3)
  have hxB : X < B := by have := hX.lt; omega
  have HM := Lib.hid M
  have HX := Lib.hid hX
  have HBX := Lib.hid hbx
  have HB1 := Lib.hid hb1
  have HT := Lib.hid hT
  clear hok hrb M hX hbx hb1 hT
  go_enter Tryz.func9, Tryz.ntmps9
  go_wp2_with (first
    | (at_builtin; refine appIn rfl _ _ rfl W1 b nb bc (B + 1) bA hz1 hnb hnil rfl rfl hrb1 hbl ?_; intro v W3 hv hb3
       have hz3 := hb3.size
       obtain ⟨T3, hT3⟩ : ∃ T3 : Nat → Prop, (fun x => T x ∨ (W.heap.size ≤ x ∧ x < W3.heap.size)) = T3 := ⟨_, rfl⟩
       have hbw3 : Below W.heap.size W W3 := HB1.out.trans (hb3.mono HB1.out.size)
       have hTX : T3 X := by rw [← hT3]; exact .inl HT.out
       have hTB : T3 B := by rw [← hT3]; exact .inr ⟨by omega, by omega⟩
       have HLE : Hid (∀ x, T x → T3 x) := Lib.hid (fun x hx => by rw [← hT3]; exact .inl hx)
       have ho3 : OwnT S T3 w0 D q v nb W3 := by
         have h := HM.out.new hbw3
         rw [hT3] at h
         refine ⟨h, _, (by have h := own_base (b2 := 0) hv (fun _ _ => Nat.zero_le _); rw [hnb] at h; exact h), AllU8.cells b, fun x hx => ?_⟩
         have := World.ownsRow.lt hv x hx
         rw [← hT3]
         exact .inr ⟨by omega, by omega⟩
       have hvX : v.ownBlock ≠ some X := fun e => by have := World.ownsRow.lt hv X e; omega
       have hc : ∀ V, Off (fun x => ¬ (S x ∨ T3 x)) W3 V → Blk B (.cells #[.int .i64 kd, .string p, .string t, .slice bA nb bc, .int .i64 n, .slice kA ks.length kc] 31 (0, 0)) V := fun V o => o.blk ((Off.of_below hb3).blk HBX.out (fun h => h)) (fun h => h (.inr hTB))
       have hx3 : ∀ V, Off (fun x => ¬ (S x ∨ T3 x)) W3 V → EmptyD X V := fun V o => ((HX.out.off (Off.of_below hbw3) (fun h => h)).off o (fun h => h (.inr hTX)))
       obtain ⟨A, cv, rfl, hA⟩ := ho3.form
       have e0 : W3.cell? ⟨B, 0, none⟩ = some (.int .i64 kd) := (hc W3 (Off.refl _ _)).cell 0
       have e3 : W3.cell? ⟨B, 3, none⟩ = some (.slice bA nb bc) := (hc W3 (Off.refl _ _)).cell 3
       have e4 : W3.cell? ⟨B, 4, none⟩ = some (.int .i64 n) := (hc W3 (Off.refl _ _)).cell 4
       have HO3 := Lib.hid ho3
       have HC := Lib.hid hc
       have HX3 := Lib.hid hx3
       have HTX := Lib.hid hTX
       have HA := Lib.hid hA
       clear hv hb3 hT3 hbw3 hTX hTB ho3 hc hx3 hA c3 hrb1)
    | (go_at_call 24; (with_reducible refine (side_fail HO3.out.lt HO3.out.side n once).mono ?_); rintro e W4 ⟨rfl, M4⟩
       have e3' : W4.cell? ⟨B, 3, none⟩ = some (.slice bA nb bc) := (HC.out W4 M4.off).cell 3
       have e4' : W4.cell? ⟨B, 4, none⟩ = some (.int .i64 n) := (HC.out W4 M4.off).cell 4)
    | (go_at_call 33; (with_reducible refine (reffail_any (HX3.out W4 M4.off) n once).mono ?_); rintro e W5 ⟨rfl, g5⟩))
  have HO5 := Lib.hid ((HO3.out.ret M4).own g5 HTX.out hvX)
  clear M4 g5 e0 e3 e4 e3' e4'
  go_loopw [119] (fun i wr => ∃ j : Nat, j ≤ nb ∧ i = .int .i64 (j : Int) ∧ Hid (OwnT S T3 w0 D (failQ q n once) (.slice A nb cv) nb wr)) (fun i _ => nb - (RowKit.intOf i).toNat)
  case atStart => exact ⟨0, by omega, rfl, HO5⟩
  case round =>
    clear HO5
    obtain ⟨j, hj, rfl, HO⟩ := hrel
    by_cases hjn : j < nb
    · obtain ⟨g, rfl⟩ := HA.out (by omega)
      obtain ⟨⟨z, hz⟩, hfz⟩ := HO.out.at hjn
      go_wp2
      go_roundw
      case rel => exact ⟨j + 1, by omega, by go_num, Lib.hid (HO.out.turn j _)⟩
      case measure => simp [RowKit.intOf]; omega
    · obtain rfl : j = nb := by omega
      go_wp2
      go_ret
      exact ⟨⟨_, rfl⟩, HO.out.mine.less HLE.out⟩
set_option maxRecDepth 100000 in
set_option maxHeartbeats 4000000 in
theorem do_crash {S T : Nat → Prop} {w0 W : World} {D X N : Nat} {q : Q} (M : MineT S T w0 D q W) (hX : EmptyD X W) (hT : T X) (o : OpR) (hok : OpOk W o) (hbl : o.b.length ≤ 10000000) (hk : kindQ o = 7) (hS : Small N q) (hN : N ≤ 1048576) (hkl : o.ks.length ≤ 1048576) (hkS : 0 < o.ks.length → ∀ x, aBlock o.kA = some x → S x) :
    Calls Tryz.prog 9 #[.pointer (some ⟨D, 0, none⟩), .pointer (some ⟨X, 0, none⟩), opAgg o] W fun e w' => (∃ b, e = .returned (.bool b)) ∧ MineT S T w0 D (crashQ q o.ks) w' := by
  have hkq : (IntKind.u64.wrap o.kind).tmod 8 = 7 := hk
  obtain ⟨kd, p, t, bA, bc, b, n, kA, kc, ks⟩ := o
  have hrb := hok.rb
  have hnil := hok.nilb
  unfold opAgg
  dsimp only at *
  obtain ⟨nb, hnb⟩ : ∃ x, b.length = x := ⟨_, rfl⟩
  rw [hnb] at hbl ⊢
  obtain ⟨nk, hnk⟩ : ∃ x, ks.length = x := ⟨_, rfl⟩
  obtain ⟨q7, hq7⟩ : ∃ x, crashQ q ks = x := ⟨_, rfl⟩
  rw [hq7]
  rw [hnk] at hkl ⊢
  have hri := hok.ri
  have hrg := hok.rg
  have hcap := hok.cap
  dsimp only at hri hrg hcap
  rw [hnk] at hcap
  obtain ⟨B, hB⟩ : ∃ B, W.heap.size = B := ⟨_, rfl⟩
  obtain ⟨W1, hW1⟩ : ∃ V, W.alloc (.cells #[.int .i64 kd, .string p, .string t, .slice bA nb bc, .int .i64 n, .slice kA nk kc] 31) = V := ⟨_, rfl⟩
  have hbx := Blk.new (.cells #[.int .i64 kd, .string p, .string t, .slice bA nb bc, .int .i64 n, .slice kA nk kc] 31 (0, 0)) W
  have hb1 : Below W.heap.size W W1 := by rw [← hW1]; exact (Below.refl _ _).alloc (Nat.le_refl _) _
  have hz1 : W1.heap.size = B + 1 := by rw [← hW1, ← hB]; simp
  rw [hW1, hB] at hbx
  have hrb1 : RB W1 bA b := hrb.below hb1
  have c3 : (W1.alloc (.cells #[] 5)).cell? ⟨B, 3, none⟩ = some (.slice bA nb bc) := ((Below.refl W1.heap.size W1).alloc (Nat.le_refl _) _).cell (p := ⟨B, 3, none⟩) (by show B < _; omega) |>.trans (hbx.cell 3)
  have hxB : X < B := by have := hX.lt; omega
  have HRI := Lib.hid hri
  have HRG := Lib.hid hrg
  have HKS := Lib.hid hkS
  have HNK := Lib.hid hnk
  have HQ7 := Lib.hid hq7
  have HSM := Lib.hid hS
  clear hri hrg hkS hnk hq7 hS
  have HM := Lib.hid M
  have HX := Lib.hid hX
  have HBX := Lib.hid hbx
  have HB1 := Lib.hid hb1
  have HT := Lib.hid hT
  clear hok hrb M hX hbx hb1 hT
  go_enter Tryz.func9, Tryz.ntmps9
  go_wp2_with (first
    | (at_builtin; refine appIn rfl _ _ rfl W1 b nb bc (B + 1) bA hz1 hnb hnil rfl rfl hrb1 hbl ?_; intro v W3 hv hb3
       have hz3 := hb3.size
       obtain ⟨T3, hT3⟩ : ∃ T3 : Nat → Prop, (fun x => T x ∨ (W.heap.size ≤ x ∧ x < W3.heap.size)) = T3 := ⟨_, rfl⟩
       have hbw3 : Below W.heap.size W W3 := HB1.out.trans (hb3.mono HB1.out.size)
       have hTX : T3 X := by rw [← hT3]; exact .inl HT.out
       have hTB : T3 B := by rw [← hT3]; exact .inr ⟨by omega, by omega⟩
       have HLE : Hid (∀ x, T x → T3 x) := Lib.hid (fun x hx => by rw [← hT3]; exact .inl hx)
       have ho3 : OwnT S T3 w0 D q v nb W3 := by
         have h := HM.out.new hbw3
         rw [hT3] at h
         refine ⟨h, _, (by have h := own_base (b2 := 0) hv (fun _ _ => Nat.zero_le _); rw [hnb] at h; exact h), AllU8.cells b, fun x hx => ?_⟩
         have := World.ownsRow.lt hv x hx
         rw [← hT3]
         exact .inr ⟨by omega, by omega⟩
       have hvX : v.ownBlock ≠ some X := fun e => by have := World.ownsRow.lt hv X e; omega
       have hc : ∀ V, Off (fun x => ¬ (S x ∨ T3 x)) W3 V → Blk B (.cells #[.int .i64 kd, .string p, .string t, .slice bA nb bc, .int .i64 n, .slice kA nk kc] 31 (0, 0)) V := fun V o => o.blk ((Off.of_below hb3).blk HBX.out (fun h => h)) (fun h => h (.inr hTB))
       have hx3 : ∀ V, Off (fun x => ¬ (S x ∨ T3 x)) W3 V → EmptyD X V := fun V o => ((HX.out.off (Off.of_below hbw3) (fun h => h)).off o (fun h => h (.inr hTX)))
       obtain ⟨A, cv, rfl, hA⟩ := ho3.form
       have e0 : W3.cell? ⟨B, 0, none⟩ = some (.int .i64 kd) := (hc W3 (Off.refl _ _)).cell 0
       have e5 : W3.cell? ⟨B, 5, none⟩ = some (.slice kA nk kc) := (hc W3 (Off.refl _ _)).cell 5
       have HRI3 : Hid (RI W3 kA ks) := Lib.hid (fun hz => by
         obtain ⟨b', off, he, hbl', hcs⟩ := HRI.out hz
         exact ⟨b', off, he, Nat.lt_of_lt_of_le hbl' hbw3.size, fun j hj => (Off.of_below hbw3).cell (hcs j hj) (fun h => h)⟩)
       have HO3 := Lib.hid ho3
       have HC := Lib.hid hc
       have HX3 := Lib.hid hx3
       have HTX := Lib.hid hTX
       have HA := Lib.hid hA
       clear hv hb3 hT3 hbw3 hTX hTB ho3 hc hx3 hA c3 hrb1)
    | (go_at_call 22; (with_reducible refine (side_crash HO3.out.lt HO3.out.side (Below.refl _ _) HSM.out hN ks nk HNK.out kA kc HRI3.out HRG.out (by rw [HNK.out]; exact hkl) (by rw [HNK.out]; exact hcap) (fun hz x hx => .inl (.inl (HKS.out hz x hx))) HQ7.out).mono ?_); rintro e W4 ⟨rfl, M4⟩
       have e5' : W4.cell? ⟨B, 5, none⟩ = some (.slice kA nk kc) := (HC.out W4 M4.off).cell 5)
    | (go_at_call 34; (with_reducible refine (refcrash_any (HX3.out W4 M4.off) kA nk kc).mono ?_); rintro e W5 ⟨rfl, g5⟩))
  have HO5 := Lib.hid ((HO3.out.ret M4).own g5 HTX.out hvX)
  clear M4 g5 e0 e5 e5'
  go_loopw [119] (fun i wr => ∃ j : Nat, j ≤ nb ∧ i = .int .i64 (j : Int) ∧ Hid (OwnT S T3 w0 D q7 (.slice A nb cv) nb wr)) (fun i _ => nb - (RowKit.intOf i).toNat)
  case atStart => exact ⟨0, by omega, rfl, HO5⟩
  case round =>
    clear HO5
    obtain ⟨j, hj, rfl, HO⟩ := hrel
    by_cases hjn : j < nb
    · obtain ⟨g, rfl⟩ := HA.out (by omega)
      obtain ⟨⟨z, hz⟩, hfz⟩ := HO.out.at hjn
      go_wp2
      go_roundw
      case rel => exact ⟨j + 1, by omega, by go_num, Lib.hid (HO.out.turn j _)⟩
      case measure => simp [RowKit.intOf]; omega
    · obtain rfl : j = nb := by omega
      go_wp2
      go_ret
      exact ⟨⟨_, rfl⟩, HO.out.mine.less HLE.out⟩
end Go.Proofs.YtbodkjifpmencaaGreat
