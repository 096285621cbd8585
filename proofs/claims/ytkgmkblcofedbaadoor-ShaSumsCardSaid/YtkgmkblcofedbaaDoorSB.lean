/-
  The iterator that the program's blocks hands back: the blocks of the parts and of what stands behind them. Conditions: as each says.
-/
import Derived.Test.YtkgmkblcofedbaaDoorSC
namespace Go.Proofs.YtkgmkblcofedbaaDoor
open Go.RowKit Go.Shelf
open Go.Lib
attribute [local go_sem] Oper.semAt_some

/-- What the iterator holds between two pieces: the blocks of a have gone, d stands at the block's head. -/
def INV (J : List (List UInt8) → World → Prop) (bB fB yB : Nat) (yv : Value) (c : List UInt8) (w : World) : Prop :=
  ∃ (a d g : List UInt8) (m : Nat), c = a ++ d ∧ a.length = 64 * m ∧ d.length < 64 ∧ g.length = 64 ∧ g.take d.length = d ∧ J (chunks m a) w ∧
    w.rowIs bB 46 64 (bf g) ∧ w.rowIs fB 3 1 (fun _ => .int .i64 (d.length : Nat)) ∧ w.rowIs yB 54 1 (fun _ => yv)
theorem INV.below {J : List (List UInt8) → World → Prop} {bB fB yB B : Nat} {yv : Value} {c : List UInt8} {A w : World} (h : INV J bB fB yB yv c A) (hJ : ∀ s, J s A → J s w) (hb : Below B A w) (h1 : bB < B) (h2 : fB < B) (h3 : yB < B) : INV J bB fB yB yv c w := by
  obtain ⟨a, d, g, m, e1, e2, e3, e4, e5, e6, e7, e8, e9⟩ := h
  exact ⟨a, d, g, m, e1, e2, e3, e4, e5, hJ _ e6, e7.of_block (hb.block _ h1), e8.of_block (hb.block _ h2), e9.of_block (hb.block _ h3)⟩
theorem INV.done {J : List (List UInt8) → World → Prop} {bB fB yB : Nat} {yv : Value} {c c' : List UInt8} {w : World} (h : INV J bB fB yB yv c w) (hq : ∃ q, c.length = 64 * q) (hc : c = c') : J (blks c') w := by
  obtain ⟨a, d, g, m, e1, e2, e3, e4, e5, e6, _⟩ := h
  obtain ⟨q, hq⟩ := hq
  subst hc
  have hd : d = [] := List.eq_nil_of_length_eq_zero (by rw [e1, List.length_append] at hq; omega)
  subst hd
  rw [List.append_nil] at e1
  subst e1
  unfold blks
  rw [e2, Nat.mul_div_cancel_left _ (by decide)]
  exact e6
/-- How a block is handed to a round. -/
def EK (x : List UInt8) (ars : Array Value) (_ : World) : Prop := x.length = 64 ∧ ars = #[.agg (cellsB x).toArray]

theorem one_at (v : Value) : ∀ i, i < (#[v] : Array Value).size → (#[v] : Array Value)[i]? = some v := by
  intro i hi
  obtain rfl : i = 0 := by simpa using hi
  rfl
set_option maxRecDepth 100000 in
theorem zz_at : ∀ i, i < 64 → (#[.int .u8 0, .int .u8 0, .int .u8 0, .int .u8 0, .int .u8 0, .int .u8 0, .int .u8 0, .int .u8 0, .int .u8 0, .int .u8 0, .int .u8 0, .int .u8 0, .int .u8 0, .int .u8 0, .int .u8 0, .int .u8 0, .int .u8 0, .int .u8 0, .int .u8 0, .int .u8 0, .int .u8 0, .int .u8 0, .int .u8 0, .int .u8 0, .int .u8 0, .int .u8 0, .int .u8 0, .int .u8 0, .int .u8 0, .int .u8 0, .int .u8 0, .int .u8 0, .int .u8 0, .int .u8 0, .int .u8 0, .int .u8 0, .int .u8 0, .int .u8 0, .int .u8 0, .int .u8 0, .int .u8 0, .int .u8 0, .int .u8 0, .int .u8 0, .int .u8 0, .int .u8 0, .int .u8 0, .int .u8 0, .int .u8 0, .int .u8 0, .int .u8 0, .int .u8 0, .int .u8 0, .int .u8 0, .int .u8 0, .int .u8 0, .int .u8 0, .int .u8 0, .int .u8 0, .int .u8 0, .int .u8 0, .int .u8 0, .int .u8 0, .int .u8 0] : Array Value)[i]? = some (bf (List.replicate 64 0) i) := by
  have h : ∀ (n : Nat) (v : Value) (j : Nat), j < n → (List.replicate n v).toArray[j]? = some v := fun n v j hj => by simp [hj]
  have h2 : ∀ (n : Nat) (v : UInt8) (j : Nat), j < n → (List.replicate n v).getD j 0 = v := fun n v j hj => by simp [List.getD, hj]
  intro i hi
  unfold bf
  rw [h2 64 0 i hi]
  exact h 64 (.int .u8 0) i hi
set_option maxRecDepth 100000 in
set_option maxHeartbeats 4000000 in
theorem blocks_seq (n : Nat) (hn : 4 ≤ n) (S : Nat → Prop) (Pb : Nat) (A : Option Addr) (c : Nat) (ps : List (List UInt8)) (htot : ps.flatten.length < 2 ^ 60) (hps : ps.length ≤ 2 ^ 47) :
    SeqAll n Tryd.prog 19 #[.pointer (some ⟨Pb, 0, none⟩)] EK S (blks (padL ps.flatten))
      (fun W => Pb < W.heap.size ∧ W.cell? ⟨Pb, 0, none⟩ = some (.slice A ps.length c) ∧ PS S W A ps ∧ ∀ k, S k → k < W.heap.size) := fun l J W hPre hJ hY h0 => by
  obtain ⟨hPlt, hbox, hparts, hSlt⟩ := hPre
  have h1' : 1 ≤ n := by omega
  refine callsIn_of_wp_marks Tryd.func19 rfl trivial ?_ rfl
  simp only [Tryd.ntmps19, List.size_toArray, List.length_cons, List.length_nil, Nat.reduceAdd, Nat.reduceSub, Array.replicate_succ, Array.replicate_zero, List.push_toArray, List.append_toArray, List.nil_append, List.cons_append]
  have HY := Lib.hid hY
  have HJ := Lib.hid hJ
  clear hY hJ
  obtain ⟨w1, hw1⟩ : ∃ w1, W.alloc (.cells #[.func (.yield l) #[] #[]] 54) = w1 := ⟨_, rfl⟩
  obtain ⟨w2, hw2⟩ : ∃ w2, w1.alloc (.cells #[.int .u8 0, .int .u8 0, .int .u8 0, .int .u8 0, .int .u8 0, .int .u8 0, .int .u8 0, .int .u8 0, .int .u8 0, .int .u8 0, .int .u8 0, .int .u8 0, .int .u8 0, .int .u8 0, .int .u8 0, .int .u8 0, .int .u8 0, .int .u8 0, .int .u8 0, .int .u8 0, .int .u8 0, .int .u8 0, .int .u8 0, .int .u8 0, .int .u8 0, .int .u8 0, .int .u8 0, .int .u8 0, .int .u8 0, .int .u8 0, .int .u8 0, .int .u8 0, .int .u8 0, .int .u8 0, .int .u8 0, .int .u8 0, .int .u8 0, .int .u8 0, .int .u8 0, .int .u8 0, .int .u8 0, .int .u8 0, .int .u8 0, .int .u8 0, .int .u8 0, .int .u8 0, .int .u8 0, .int .u8 0, .int .u8 0, .int .u8 0, .int .u8 0, .int .u8 0, .int .u8 0, .int .u8 0, .int .u8 0, .int .u8 0, .int .u8 0, .int .u8 0, .int .u8 0, .int .u8 0, .int .u8 0, .int .u8 0, .int .u8 0, .int .u8 0] 46) = w2 := ⟨_, rfl⟩
  obtain ⟨w3, hw3⟩ : ∃ w3, w2.alloc (.cells #[.int .i64 0] 3) = w3 := ⟨_, rfl⟩
  have r1 := World.rowIs_alloc W #[.func (.yield l) #[] #[]] 54 (fun _ => .func (.yield l) #[] #[]) (one_at _)
  have r2 := World.rowIs_alloc w1 #[.int .u8 0, .int .u8 0, .int .u8 0, .int .u8 0, .int .u8 0, .int .u8 0, .int .u8 0, .int .u8 0, .int .u8 0, .int .u8 0, .int .u8 0, .int .u8 0, .int .u8 0, .int .u8 0, .int .u8 0, .int .u8 0, .int .u8 0, .int .u8 0, .int .u8 0, .int .u8 0, .int .u8 0, .int .u8 0, .int .u8 0, .int .u8 0, .int .u8 0, .int .u8 0, .int .u8 0, .int .u8 0, .int .u8 0, .int .u8 0, .int .u8 0, .int .u8 0, .int .u8 0, .int .u8 0, .int .u8 0, .int .u8 0, .int .u8 0, .int .u8 0, .int .u8 0, .int .u8 0, .int .u8 0, .int .u8 0, .int .u8 0, .int .u8 0, .int .u8 0, .int .u8 0, .int .u8 0, .int .u8 0, .int .u8 0, .int .u8 0, .int .u8 0, .int .u8 0, .int .u8 0, .int .u8 0, .int .u8 0, .int .u8 0, .int .u8 0, .int .u8 0, .int .u8 0, .int .u8 0, .int .u8 0, .int .u8 0, .int .u8 0, .int .u8 0] 46 (bf (List.replicate 64 0)) (fun i hi => by
    have hi' : i < 64 := hi
    exact zz_at i hi')
  have r3 := World.rowIs_alloc w2 #[.int .i64 0] 3 (fun _ => .int .i64 ((0 : Nat) : Int)) (one_at _)
  have s1 : w1.heap.size = W.heap.size + 1 := by rw [← hw1]; simp
  have s2 : w2.heap.size = W.heap.size + 2 := by rw [← hw2]; simp [s1]
  have s3 : w3.heap.size = W.heap.size + 3 := by rw [← hw3]; simp [s2]
  have hb1 : Below W.heap.size W w1 := by rw [← hw1]; exact (Below.refl _ _).alloc (Nat.le_refl _) _
  have hb2 : Below W.heap.size W w2 := by rw [← hw2]; exact hb1.alloc hb1.size _
  have hb3 : Below W.heap.size W w3 := by rw [← hw3]; exact hb2.alloc hb2.size _
  rw [hw1] at r1
  rw [hw2, s1] at r2
  rw [hw3, s2] at r3
  have r1' : w3.rowIs W.heap.size 54 1 (fun _ => .func (.yield l) #[] #[]) := by rw [← hw3, ← hw2]; exact (r1.alloc _).alloc _
  have r2' : w3.rowIs (W.heap.size + 1) 46 64 (bf (List.replicate 64 0)) := by rw [← hw3]; exact r2.alloc _
  have hc4 : w3.cell? ⟨W.heap.size + 2, 0, none⟩ = some (.int .i64 0) := r3.cell (i := 0) (show 0 < 1 by decide)
  have hf4 : w3.frozen? ⟨W.heap.size + 2, 0, none⟩ = false := r3.frozen 0
  obtain ⟨w4, hw4⟩ : ∃ w4, w3.setCell ⟨W.heap.size + 2, 0, none⟩ (.int .i64 0) = w4 := ⟨_, rfl⟩
  have hb4 : Below W.heap.size W w4 := by rw [← hw4]; exact hb3.setCell (p := ⟨W.heap.size + 2, 0, none⟩) (by simp) _
  have s4 : w4.heap.size = W.heap.size + 3 := by rw [← hw4]; simp [s3]
  have q1 : w4.rowIs W.heap.size 54 1 (fun _ => .func (.yield l) #[] #[]) := by rw [← hw4]; exact r1'.setOther (a := ⟨W.heap.size + 2, 0, none⟩) (by simp) _
  have q2 : w4.rowIs (W.heap.size + 1) 46 64 (bf (List.replicate 64 0)) := by rw [← hw4]; exact r2'.setOther (a := ⟨W.heap.size + 2, 0, none⟩) (by simp) _
  have q3 : w4.rowIs (W.heap.size + 2) 3 1 (fun _ => .int .i64 ((0 : Nat) : Int)) := by
    rw [← hw4]
    exact (r3.set 0 _).congr (fun i _ => by split <;> rfl)
  have hbox4 : w4.cell? ⟨Pb, 0, none⟩ = some (.slice A ps.length c) := (hb4.cell (p := ⟨Pb, 0, none⟩) hPlt).trans hbox
  have Q1 := Lib.hid q1
  have Q2 := Lib.hid q2
  have Q3 := Lib.hid q3
  have HS4 := Lib.hid s4
  clear s3 r1 r2 r3 r1' r2' q1 q2 q3 s4 hb3 hb2 hb1
  gi_wp2_with (refine ⟨trivial, ?_⟩; gi_at_call 20; refine (callsIn_wide.2 (withTail_any _ _ _ _)).mono ?_; rintro e w2 ⟨rfl, rfl⟩)
  have hPw : ∀ (V : World), Below W.heap.size W V → V.cell? ⟨w4.heap.size, 0, none⟩ = some (.slice A ps.length c) → W.heap.size + 3 ≤ V.heap.size → V.cell? ⟨w4.heap.size, 0, none⟩ = some (.slice A ps.length c) ∧ PS (fun k => S k ∨ k = W.heap.size + 1 ∨ k = W.heap.size + 2) V A ps ∧ ∀ k, (S k ∨ k = W.heap.size + 1 ∨ k = W.heap.size + 2) → k < V.heap.size := fun V hV hc hs => by
    refine ⟨hc, (hparts.wide (T := fun k => S k ∨ k = W.heap.size + 1 ∨ k = W.heap.size + 2) (fun k hk => hk.imp id (fun h => by omega))).kx (KX.below _ hV), fun k hk => ?_⟩
    rcases hk with h | h | h
    · have := hSlt k h; omega
    · omega
    · omega
  obtain ⟨w5, hw5⟩ : ∃ w5, w4.alloc (.cells #[.slice A ps.length c] 39) = w5 := ⟨_, rfl⟩
  have hs5 : w5.heap.size = W.heap.size + 4 := by rw [← hw5, World.size_alloc, HS4.out]
  have hb5 : Below W.heap.size W w5 := by rw [← hw5]; exact hb4.alloc hb4.size _
  have hb45 : Below w4.heap.size w4 w5 := by rw [← hw5]; exact (Below.refl _ _).alloc (Nat.le_refl _) _
  have hc5 : w5.cell? ⟨w4.heap.size, 0, none⟩ = some (.slice A ps.length c) := by
    rw [← hw5]
    exact (World.rowIs_alloc w4 #[.slice A ps.length c] 39 (fun _ => .slice A ps.length c) (one_at _)).cell (i := 0) (show 0 < 1 by decide)
  have hinv : INV J (W.heap.size + 1) (W.heap.size + 2) W.heap.size (.func (.yield l) #[] #[]) [] w5 :=
    INV.below (B := w4.heap.size) ⟨[], [], List.replicate 64 0, 0, rfl, rfl, by decide, by simp, rfl, HJ.out _ _ _ h0 hb4, Q2.out, Q3.out, Q1.out⟩ (fun s h => HJ.out _ _ _ h (hb45.mono hb4.size)) hb45 (by have := HS4.out; omega) (by have := HS4.out; omega) (by have := HS4.out; omega)
  rw [hw5]
  refine wpIn_rangeAll h1' (gf := 25) (lb := #[.pointer (some ⟨w4.heap.size, 0, none⟩)]) rfl (enters_of Tryd.func25 (by kernel_rfl) rfl)
    (withTail_seq (n - 1) (by omega) (fun k => S k ∨ k = W.heap.size + 1 ∨ k = W.heap.size + 2) w4.heap.size A c ps htot hps)
    (fun V hV => hPw V (hb5.trans (hV.mono hb5.size)) ((hV.cell (p := ⟨w4.heap.size, 0, none⟩) (by have := HS4.out; show w4.heap.size < w5.heap.size; omega)).trans hc5) (by have := hV.size; omega))
    (fun x ars V h => by obtain ⟨A', c', rfl, _⟩ := h; rfl)
    (fun pre V => INV J (W.heap.size + 1) (W.heap.size + 2) W.heap.size (.func (.yield l) #[] #[]) pre.flatten V)
    (fun s X Y hX hXY => hX.below (fun s h => HJ.out _ _ _ h (hXY.mono (by omega))) hXY (by omega) (by omega) (by omega))
    hinv
    (fun x a' V => ∃ A' c', a' = { tmps := #[.func (.yield l) #[] #[], .pointer (some ⟨Pb, 0, none⟩), .pointer (some ⟨W.heap.size, 0, none⟩), .pointer (some ⟨W.heap.size + 1, 0, none⟩), .pointer (some ⟨W.heap.size + 2, 0, none⟩), .slice A' x.length c', undef, .slice A ps.length c, .func (.func 25) #[] #[.pointer (some ⟨w4.heap.size, 0, none⟩)], .slice A' x.length c', undef, undef, undef, undef, undef, undef, undef, undef, undef, undef, undef, undef, undef, undef, undef, undef, undef, undef, undef], defers := [] } ∧ x.length ≤ c' ∧ RS (fun k => S k ∨ k = W.heap.size + 1 ∨ k = W.heap.size + 2) V A' x)
    (fun x a' V l o o' h _ hl hc => by obtain ⟨A', c', e, hle, hr⟩ := h; exact ⟨A', c', e, hle, hr.kx (KX.put _ o' hl hc)⟩)
    ?assign ?body ?done
  case assign =>
    rintro l2 pre x ars V K hi hsz ⟨A', c', rfl, hle, hrs⟩ hK
    gi_wp2
    exact hK _ _ (KeepsFrom.refl _ _) (KX.refl _ _) hi ⟨A', c', rfl, hle, hrs⟩
  case body =>
    rintro l2 pre x rest a' V hxs hsz hinv ⟨A', c', rfl, hle, hrs⟩
    have HT := Lib.hid (show pre.flatten ++ x ++ rest.flatten = padL ps.flatten by
      have := congrArg List.flatten hxs
      simp only [List.flatten_append, List.flatten_cons, List.flatten_nil, List.append_nil] at this
      rw [padL, List.append_assoc, this])
    clear hxs hw5 hc5 hb45 Q1 Q2 Q3 hb4 HS4 hPw hbox4 hw4 hw3 hw2 hw1 hc4 hf4
    gi_wp2
    gi_loopw [5] (fun p wr => ∃ (y r : List UInt8) (A1 : Option Addr) (c1 : Nat), Hid (x = y ++ r) ∧ p = .slice A1 r.length c1 ∧ r.length ≤ c1 ∧ RS (fun k => S k ∨ k = W.heap.size + 1 ∨ k = W.heap.size + 2) wr A1 r ∧ INV J (W.heap.size + 1) (W.heap.size + 2) W.heap.size (.func (.yield l) #[] #[]) (pre.flatten ++ y) wr ∧ KX (fun k => S k ∨ k = W.heap.size + 1 ∨ k = W.heap.size + 2) V wr ∧ KeepsFrom w5.heap.size V wr) (fun p _ => match p with | .slice _ n _ => n | _ => 0)
    case atStart => exact ⟨[], x, A', c', rfl, rfl, hle, hrs, by rw [List.append_nil]; exact hinv, KX.refl _ _, KeepsFrom.refl _ _⟩
    case round =>
      obtain ⟨y, r, A1, c1, hyr, rfl, hle1, hrs1, hinv1, hkx, hkf⟩ := hrel
      by_cases hr0 : r.length = 0
      · have hr' := List.eq_nil_of_length_eq_zero hr0
        have HX := Lib.hid (show (pre ++ [x]).flatten = pre.flatten ++ y by rw [hyr.out, hr']; simp)
        clear hr'
        gi_wp2
        exact ⟨hkf, hkx, by show INV _ _ _ _ _ (pre ++ [x]).flatten wr; rw [HX.out]; exact hinv1⟩
      · obtain ⟨b, off, rfl, hblt, hSb, hcs⟩ := hrs1 (by omega)
        obtain ⟨a, d, g, m, e1, e2, e3, e4, e5, e6, q7, q8, q9⟩ := hinv1
        have hWw : W.heap.size < wr.heap.size := q9.lt
        obtain ⟨F, hF⟩ : ∃ F, d.length = F := ⟨_, rfl⟩
        obtain ⟨L, hL⟩ : ∃ L, r.length = L := ⟨_, rfl⟩
        obtain ⟨k, hk⟩ : ∃ k, Nat.min L (64 - F) = k := ⟨_, rfl⟩
        rw [hF] at e3 e5 q8
        rw [hL] at hle1 hcs hr0 ⊢
        have k1 : 1 ≤ k ∧ k ≤ L ∧ F + k ≤ 64 ∧ (F + k < 64 → k = L) := hk ▸ min_facts L F (by omega) e3
        obtain ⟨k1, k2, k3, k4⟩ := k1
        obtain ⟨F', hz⟩ : ∃ F' : Nat, (F : Int) + (k : Int) = (F' : Int) := ⟨F + k, by omega⟩
        have hF' : F' = F + k := by omega
        obtain ⟨G, hG⟩ : ∃ G, spl g r F k = G := ⟨_, rfl⟩
        have hGl : G.length = 64 := by rw [← hG]; exact spl_len e4 k3 (by omega)
        have hGt : G.take F' = d ++ r.take k := by rw [← hG, hF']; exact spl_take e4 k3 (by omega) e5
        have HGA := Lib.hid (fun i hi => hG ▸ spl_at (g := g) (r := r) (F := F) (k := k) e4 k3 (by omega) i hi)
        have hcF := q8.cell (i := 0) (by decide)
        have hfF := q8.frozen 0
        have hsl := fun X => slice_block X (W.heap.size + 1) F e3
        have HE1 := Lib.hid e1
        have HE2 := Lib.hid e2
        have HF := Lib.hid hF
        have HL := Lib.hid hL
        have HK := Lib.hid hk
        have HF' := Lib.hid hF'
        have HGt := Lib.hid hGt
        have HGl := Lib.hid hGl
        have HB := Lib.hid hcs
        have hLk : k ≤ L := k2
        clear e1 e2 e5 e4 hF hL hk hF' hGt hGl hG hcs
        gi_wp2_with (refine wpListIn_copy_rows rfl (.tmp 14) (.tmp 15) 22 22 rfl 5 Tryd.underlying22 (by kernel_rfl) (W.heap.size + 1) F (64 - F) (64 - F) b off L c1 rfl rfl 46 64 (bf g) (bf r) q7 k HK.out.symm (fun j hj => HB.out j (by omega)) (fun _ => rfl) k3 ?_)
        intro w' hrow hg'
        have hsz' := hg'.size
        have hb' : Below W.heap.size wr w' := (Below.refl _ wr).grown hg' (by omega) (fun k hk => by cases hk; omega)
        have q8' := q8.of_block (hg'.block _ q8.lt (by simp))
        have q9' := q9.of_block (hg'.block _ q9.lt (by simp))
        have hrow' := hrow.congr (fun i hi => HGA.out i hi)
        have hkx' : KX (fun k => S k ∨ k = W.heap.size + 1 ∨ k = W.heap.size + 2) V w' := hkx.trans (KX.grown hg' (.inr (.inl rfl)))
        have hkf' : KeepsFrom w5.heap.size V w' := hkf.trans (KeepsFrom.of_grownBy hg' (fun j e => by cases e; omega))
        have hJ' := HJ.out _ _ _ e6 hb'
        obtain ⟨w6, hw6⟩ : ∃ w6, w'.setCell ⟨W.heap.size + 2, 0, none⟩ (.int .i64 (F' : Int)) = w6 := ⟨_, rfl⟩
        have hb6 : Below W.heap.size wr w6 := by rw [← hw6]; exact hb'.setCell (p := ⟨W.heap.size + 2, 0, none⟩) (by simp) _
        have p7 : w6.rowIs (W.heap.size + 1) 46 64 (bf G) := by rw [← hw6]; exact hrow'.setOther (a := ⟨W.heap.size + 2, 0, none⟩) (by simp) _
        have p8 : w6.rowIs (W.heap.size + 2) 3 1 (fun _ => .int .i64 (F' : Nat)) := by
          rw [← hw6]
          exact (q8'.set 0 _).congr (fun i hi => by rw [if_pos (by omega)])
        have p9 : w6.rowIs W.heap.size 54 1 (fun _ => .func (.yield l) #[] #[]) := by rw [← hw6]; exact q9'.setOther (a := ⟨W.heap.size + 2, 0, none⟩) (by simp) _
        have hkx6 : KX (fun k => S k ∨ k = W.heap.size + 1 ∨ k = W.heap.size + 2) V w6 := hkx'.trans (by rw [← hw6]; exact KX.set w' (.inr (.inr rfl)) 0 _)
        have hkf6 : KeepsFrom w5.heap.size V w6 := hkf'.trans (by rw [← hw6]; exact (KeepsOthers.setCell _ _ _).from _)
        have hJ6 := HJ.out _ _ _ e6 hb6
        have hrs6 : RS (fun k => S k ∨ k = W.heap.size + 1 ∨ k = W.heap.size + 2) w6 (some ⟨b, off, none⟩) r := RS.kx (w := wr) (fun _ => ⟨b, off, rfl, hblt, hSb, fun j hj => HB.out j (by rw [← HL.out]; exact hj)⟩) ((KX.grown hg' (.inr (.inl rfl))).trans (by rw [← hw6]; exact KX.set w' (.inr (.inr rfl)) 0 _))
        have hcF' := q8'.cell (i := 0) (by decide)
        have hfF' := q8'.frozen 0
        have hcF6 := p8.cell (i := 0) (by decide)
        have hcy6 := p9.cell (i := 0) (by decide)
        clear hcF hfF q7 q8 q9 hrow hrow' q8' q9' hb' hJ' hkx' hkf' hkx hkf e6
        by_cases hfull : F' < 64
        · have hkL := k4 (by rw [← HF'.out]; exact hfull)
          have HN : Hid (INV J (W.heap.size + 1) (W.heap.size + 2) W.heap.size (.func (.yield l) #[] #[]) (pre.flatten ++ (y ++ r)) w6) := by
            have hrt : r.take k = r := List.take_of_length_le (by rw [HL.out, hkL]; exact Nat.le_refl _)
            have hdl : (d ++ r).length = F' := by rw [List.length_append, HF.out, HL.out, HF'.out, hkL]
            refine ⟨a, d ++ r, G, m, ?_, HE2.out, by rw [hdl]; exact hfull, HGl.out, ?_, hJ6, p7, by rw [hdl]; exact p8, p9⟩
            · rw [← List.append_assoc, HE1.out, List.append_assoc]
            · rw [hdl, HGt.out, hrt]
          have HX := Lib.hid (show x = (y ++ r) ++ [] by rw [List.append_nil]; exact hyr.out)
          clear p7 p8 p9 hJ6
          obtain rfl : L = k := hkL.symm
          rcases Nat.lt_or_ge L c1 with hcap | hcap
          · gi_wp2
            go_roundw
            case rel => exact ⟨y ++ r, [], _, _, HX, rfl, Nat.zero_le _, fun h => absurd h (by simp), HN.out, hkx6, hkf6⟩
            case measure => simp; omega
          · obtain rfl : L = c1 := by omega
            gi_wp2
            go_roundw
            case rel => exact ⟨y ++ r, [], _, _, HX, rfl, Nat.zero_le _, fun h => absurd h (by simp), HN.out, hkx6, hkf6⟩
            case measure => simp; omega
        · obtain rfl : F' = 64 := by omega
          have hGd : G = d ++ r.take k := by rw [← HGt.out, List.take_of_length_le (by rw [HGl.out]; exact Nat.le_refl _)]
          have hTT : padL ps.flatten = a ++ (G ++ (r.drop k ++ rest.flatten)) := by
            have e : pre.flatten ++ (y ++ r) = a ++ d ++ r := by rw [← List.append_assoc, HE1.out]
            rw [← HT.out, hyr.out, hGd, e]
            conv => lhs; rw [← List.take_append_drop k r]
            simp only [List.append_assoc]
          have hW6 := hb6.size
          obtain ⟨fn, tmps, assign, body, hy, hR⟩ := HY.out (chunks m a) G _ #[.agg (cellsB G).toArray] w6 (blks_next hTT HE2.out HGl.out (padL_length _)) hJ6 (by omega) ⟨HGl.out, rfl⟩
          have hn0 : ∀ j, W.heap.size ≤ j → ¬ S j := fun j hj h => by have := hSlt j h; omega
          have HNX : Hid (∀ W5, J (chunks m a ++ [G]) W5 → KX S w6 W5 → KeepsFrom W.heap.size w6 W5 →
              (W5.cell? ⟨W.heap.size + 2, 0, none⟩ = some (.int .i64 ((64 : Nat) : Int)) ∧ W5.frozen? ⟨W.heap.size + 2, 0, none⟩ = false) ∧
              ∀ w8, W5.setCell ⟨W.heap.size + 2, 0, none⟩ (.int .i64 0) = w8 → INV J (W.heap.size + 1) (W.heap.size + 2) W.heap.size (.func (.yield l) #[] #[]) (pre.flatten ++ (y ++ r.take k)) w8 ∧ KX (fun k => S k ∨ k = W.heap.size + 1 ∨ k = W.heap.size + 2) V w8 ∧ KeepsFrom w5.heap.size V w8 ∧ RS (fun k => S k ∨ k = W.heap.size + 1 ∨ k = W.heap.size + 2) w8 (some ⟨b, off + k, none⟩) (r.drop k)) := fun W5 hJ5 hk5 hkf5 => by
            have t7 := hk5.row p7 (hn0 _ (by omega))
            have t8 := hk5.row p8 (hn0 _ (by omega))
            have t9 := hk5.row p9 (hn0 _ (by omega))
            have t9l := t9.lt
            have hkS := hk5.mono (T := (fun k => S k ∨ k = W.heap.size + 1 ∨ k = W.heap.size + 2)) (fun _ h => .inl h)
            refine ⟨⟨t8.cell (i := 0) (by decide), t8.frozen 0⟩, ?_⟩
            rintro w8 rfl
            have hk8 : KX (fun k => S k ∨ k = W.heap.size + 1 ∨ k = W.heap.size + 2) W5 (W5.setCell ⟨W.heap.size + 2, 0, none⟩ (.int .i64 0)) := KX.set W5 (.inr (.inr rfl)) 0 _
            refine ⟨⟨a ++ G, [], G, m + 1, ?_, ?_, by decide, HGl.out, rfl, ?_, ?_, ?_, ?_⟩, hkx6.trans (hkS.trans hk8), (hkf6.trans (kf_mono hkf5 (by omega))).trans ((KeepsOthers.setCell _ _ _).from _), (hrs6.drop k).kx (hkS.trans hk8)⟩
            · rw [hGd, ← List.append_assoc, HE1.out]; simp
            · rw [List.length_append, HE2.out, HGl.out]; omega
            · rw [chunks_snoc m a G HE2.out HGl.out]
              exact HJ.out _ _ _ hJ5 ((Below.refl _ _).setCell (p := ⟨W.heap.size + 2, 0, none⟩) (by simp) _)
            · exact t7.setOther (a := ⟨W.heap.size + 2, 0, none⟩) (by simp) _
            · exact (t8.set 0 _).congr (fun i hi => by rw [if_pos (by omega)]; rfl)
            · exact t9.setOther (a := ⟨W.heap.size + 2, 0, none⟩) (by simp) _
          have HX := Lib.hid (show x = (y ++ r.take k) ++ r.drop k by rw [List.append_assoc, List.take_append_drop]; exact hyr.out)
          have HLL := Lib.hid (show (r.drop k).length = L - k by rw [List.length_drop, HL.out])
          have hrange := row_range p7 HGl.out
          have HR := Lib.hid hrange
          have hw6' : w'.setCell ⟨W.heap.size + 2, 0, none⟩ (.int .i64 64) = w6 := hw6
          have hz' : (F : Int) + (k : Int) = 64 := by omega
          have hcF6' : w6.cell? ⟨W.heap.size + 2, 0, none⟩ = some (.int .i64 64) := hcF6
          clear hw6 hz hcF6
          clear hrange hGd hTT p7 p8 p9 hJ6 hkx6 hkf6
          rcases Nat.lt_or_ge k c1 with hcap | hcap
          · gi_wp2_with (refine wpListIn_load_mid rfl 46 (.tmp 3) rfl (W.heap.size + 1) 0 rfl (cellsB G) _ HR.out Tryd.underlying46 rfl (by rw [cellsB_length, HGl.out]; kernel_rfl) ?_)
            refine ⟨(fun h => by cases h), (roundIn_wide hR).mono ?_⟩
            rintro e W5 ⟨rfl, hJ5, hk5, hkf5⟩
            obtain ⟨⟨hc5, hf5⟩, hfin⟩ := HNX.out W5 hJ5 hk5 hkf5
            obtain ⟨w8, hw8⟩ : ∃ w8, W5.setCell ⟨W.heap.size + 2, 0, none⟩ (.int .i64 0) = w8 := ⟨_, rfl⟩
            obtain ⟨f1, f2, f3, f4⟩ := hfin w8 hw8
            clear hfin hJ5 hk5 hkf5 hw6' hR hy
            gi_wp2
            go_roundw
            case rel => exact ⟨y ++ r.take k, r.drop k, some ⟨b, off + k, none⟩, c1 - k, HX, by rw [HLL.out], by rw [HLL.out]; omega, f4, f1, f2, f3⟩
            case measure => simp; omega
          · obtain rfl : c1 = k := by omega
            obtain rfl : L = c1 := by omega
            gi_wp2_with (refine wpListIn_load_mid rfl 46 (.tmp 3) rfl (W.heap.size + 1) 0 rfl (cellsB G) _ HR.out Tryd.underlying46 rfl (by rw [cellsB_length, HGl.out]; kernel_rfl) ?_)
            refine ⟨(fun h => by cases h), (roundIn_wide hR).mono ?_⟩
            rintro e W5 ⟨rfl, hJ5, hk5, hkf5⟩
            obtain ⟨⟨hc5, hf5⟩, hfin⟩ := HNX.out W5 hJ5 hk5 hkf5
            obtain ⟨w8, hw8⟩ : ∃ w8, W5.setCell ⟨W.heap.size + 2, 0, none⟩ (.int .i64 0) = w8 := ⟨_, rfl⟩
            obtain ⟨f1, f2, f3, f4⟩ := hfin w8 hw8
            clear hfin hJ5 hk5 hkf5 hw6' hR hy
            gi_wp2
            go_roundw
            case rel => exact ⟨y ++ r.take L, r.drop L, some ⟨b, off, none⟩, 0, HX, by rw [HLL.out, Nat.sub_self], by rw [HLL.out]; omega, fun h => absurd h (by rw [HLL.out]; omega), f1, f2, f3⟩
            case measure => simp; omega
  case done =>
    rintro D V hD hi hK
    have hpad : padL ps.flatten = ps.flatten ++ [tailL ps.flatten.length].flatten := by simp [padL]
    gi_wp2
    refine ⟨by simp, .inl ⟨_, _, rfl, run_takeDeferred hK, ?_⟩⟩
    exact ⟨_, results_none rfl _ _ _, ⟨_, rfl⟩, HJ.out _ _ _ (hi.done (by rw [List.flatten_append, ← hpad]; exact padL_length _) (by rw [List.flatten_append, ← hpad])) (below_put _ (Array.getElem?_eq_some_iff.1 hK).1 (by omega))⟩
end Go.Proofs.YtkgmkblcofedbaaDoor
