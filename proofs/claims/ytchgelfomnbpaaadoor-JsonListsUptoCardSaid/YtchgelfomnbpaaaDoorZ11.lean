/-
  Of the proofs of layer 7 (values of JSON): the parts PA PB. No conditions.
-/
import Derived.Test.YtchgelfomnbpaaaDoorZ08
import Derived.Test.YtchgelfomnbpaaaDoorZ09
import Derived.Test.YtchgelfomnbpaaaDoorZ10
namespace Go.Proofs.YtchgelfomnbpaaaDoor
open Go.RowKit
open Go.Lib

theorem index_in : ∀ (l : Bt) (c : UInt8), (0 ≤ Lib.indexByte l c) ↔ c ∈ l := by
  intro l c
  have h1 := Lib.indexByte_ge l c
  constructor
  · intro h
    obtain ⟨o, ho⟩ : ∃ o : Nat, Lib.indexByte l c = o := ⟨(Lib.indexByte l c).toNat, by omega⟩
    exact List.mem_of_getElem? (Lib.indexByte_some ho).1
  · intro h
    refine Classical.byContradiction fun hn => ?_
    have he : Lib.indexByte l c = -1 := by omega
    obtain ⟨k, hk, e⟩ := List.getElem_of_mem h
    exact Lib.indexByte_none he k (by rw [List.getElem?_eq_getElem hk, e])
theorem byte_back (c : UInt8) : ((c.toNat : Int)).toNat.toUInt8 = c := by
  rw [Int.toNat_natCast]
  exact UInt8.ofNat_toNat
/-- Does a text start with one of some bytes? -/
def startL (s some : Bt) : Bool := match s with | [] => false | c :: _ => decide (c ∈ some)
set_option maxRecDepth 100000 in
theorem starts_w (s som : Bt) (w : World) : Calls Tryd.prog 80 #[.string (bs s), .string (bs som)] w fun e w' => e = .returned (.bool (startL s som)) ∧ w' = w := by
  cases s with
  | nil =>
    have hne : (bs ([] : Bt)).toList = [] := by rw [Lib.toList_data]; rfl
    go_enter Tryd.func80, Tryd.ntmps80
    go_wp2
    go_ret
    exact ⟨rfl, rfl⟩
  | cons c r =>
    have hne : ¬ (bs (c :: r)).toList = [] := by rw [Lib.toList_data, bs_list]; exact List.cons_ne_nil _ _
    obtain ⟨b, hb⟩ : ∃ b, startL (c :: r) som = b := ⟨_, rfl⟩
    obtain ⟨i, hi⟩ : ∃ i, Lib.indexByte som c = i := ⟨_, rfl⟩
    have hpos : 0 < (bs (c :: r)).size := by rw [bs_size]; simp
    have h0 : (bs (c :: r))[0]'hpos = c := rfl
    have HC : Hid (∀ W, Calls Tryd.prog 95 #[.string (bs som), .int .u8 (((bs (c :: r))[0]'hpos).toNat : Int)] W fun e w' => e = .returned (.int .i64 i) ∧ w' = W) := Lib.hid (fun W => by
      have := libIndexByte (bs som) ((c.toNat : Nat) : Int) W
      rw [bs_list, byte_back, hi] at this
      rw [h0]
      exact this)
    have hib : decide (0 ≤ i) = b := by
      rw [← hb]
      show _ = decide (c ∈ som)
      rw [← hi]
      exact decide_eq_decide.2 (index_in som c)
    rw [hb]
    obtain ⟨S, hS⟩ : ∃ S, bs (c :: r) = S := ⟨_, rfl⟩
    clear h0
    revert hpos HC
    rw [hS]
    rw [hS] at hne
    intro hpos HC
    clear hi hb hS
    go_enter Tryd.func80, Tryd.ntmps80
    go_wp2_with (go_at_call 95; (with_reducible refine (HC.out _).mono ?_); rintro e w1 ⟨rfl, rfl⟩)
    go_ret
    refine ⟨ret_b6 ?_, rfl⟩
    cases hl : S.toList with
    | nil => exact absurd hl hne
    | cons a t => rfl
/-! ### Digits -/
def digS : Bt := [48, 49, 50, 51, 52, 53, 54, 55, 56, 57]
theorem digs_mem (c : UInt8) : digS.contains c = isD 10 c := by
  have h : ∀ n : Nat, n < 256 → digS.contains (UInt8.ofNat n) = isD 10 (UInt8.ofNat n) := by decide +kernel
  have := h c.toNat (UInt8.toNat_lt c)
  rw [UInt8.ofNat_toNat] at this
  exact this
theorem start_digs (s : Bt) : startL s digS = decide (dgL s ≠ 0) := by
  cases s with
  | nil => rfl
  | cons c r =>
    show decide (c ∈ digS) = _
    have h := digs_mem c
    rw [List.contains_eq_mem] at h
    rw [h]
    cases hd : isD 10 c with
    | true =>
      have : dgL (c :: r) ≠ 0 := by unfold dgL; rw [List.takeWhile_cons_of_pos hd]; simp
      rw [decide_eq_true this]
    | false =>
      have : dgL (c :: r) = 0 := by unfold dgL; rw [List.takeWhile_cons_of_neg (by simp [hd])]; rfl
      rw [this]
      rfl
theorem drop_while (p : UInt8 → Bool) : ∀ s : Bt, s.dropWhile p = s.drop (s.takeWhile p).length
  | [] => rfl
  | c :: r => by
    cases h : p c with
    | true => rw [List.dropWhile_cons_of_pos h, List.takeWhile_cons_of_pos h, List.length_cons, List.drop_succ_cons, drop_while p r]
    | false => rw [List.dropWhile_cons_of_neg (by simp [h]), List.takeWhile_cons_of_neg (by simp [h])]; rfl
theorem trim_digs (s : Bt) (W : World) : Calls Tryd.prog 56 #[.string (bs s), .string ⟨#[48, 49, 50, 51, 52, 53, 54, 55, 56, 57]⟩] W fun e w' => e = .returned (.string (bs (s.drop (dgL s)))) ∧ Below W.heap.size W w' := by
  have h := libTrimLeft (bs s) (bs digS) W (by decide) (by
    intro j b h
    rw [bs_list] at h
    have := List.mem_of_getElem? h
    have hall : ∀ c ∈ digS, c.toNat < 128 := by decide
    exact hall b this)
  rw [bs_list, bs_list] at h
  have e : Lib.trimLeftS s digS = s.drop (dgL s) := by
    unfold Lib.trimLeftS
    rw [show (fun x => digS.contains x) = isD 10 from funext digs_mem, drop_while]
    rfl
  rw [e] at h
  exact h
/-- What is told of the bytes behind some. -/
def FOut (o : Option Bt) (w : World) (e : Ending) (w' : World) : Prop := e = .returned (.tuple #[.string (bs (o.getD [])), .bool o.isSome]) ∧ Below w.heap.size w w'
theorem FOut.bad {o : Option Bt} {w w' : World} (h : o = none) (hb : Below w.heap.size w w') : FOut o w (.returned (.tuple #[.string ⟨#[]⟩, .bool false])) w' := by subst h; exact ⟨rfl, hb⟩
theorem FOut.good {o : Option Bt} {r : Bt} {w w' : World} (h : o = some r) (hb : Below w.heap.size w w') : FOut o w (.returned (.tuple #[.string (bs r), .bool true])) w' := by subst h; exact ⟨rfl, hb⟩
set_option maxRecDepth 100000 in
theorem digits_any (s : Bt) (w : World) : Calls Tryd.prog 79 #[.string (bs s)] w (FOut (digF s) w) := by
  have HS := Lib.hid (fun W => starts_w s digS W)
  rw [start_digs] at HS
  have HT := Lib.hid (fun W => trim_digs s W)
  by_cases h : dgL s = 0
  · have hd : digF s = none := by unfold digF; rw [if_pos h]
    have HD := Lib.hid hd
    rw [decide_eq_false (by simp [h])] at HS
    clear h hd
    go_enter Tryd.func79, Tryd.ntmps79
    go_wp2_with (go_at_call 80; refine (HS.out _).mono ?_; rintro e w1 ⟨rfl, rfl⟩)
    go_ret2
    exact FOut.bad HD.out (Below.refl _ _)
  · obtain ⟨r, hr⟩ : ∃ r, s.drop (dgL s) = r := ⟨_, rfl⟩
    have hd : digF s = some r := by unfold digF; rw [if_neg h, hr]
    have HD := Lib.hid hd
    rw [hr] at HT
    rw [decide_eq_true h] at HS
    clear h hd hr
    go_enter Tryd.func79, Tryd.ntmps79
    go_wp2_with (first
      | (go_at_call 80; refine (HS.out _).mono ?_; rintro e w1 ⟨rfl, rfl⟩)
      | (go_at_call 56; (with_reducible refine (HT.out _).mono ?_); rintro e w1 ⟨rfl, b1⟩))
    go_ret2
    exact FOut.good HD.out b1
end Go.Proofs.YtchgelfomnbpaaaDoor
namespace Go.Proofs.YtchgelfomnbpaaaDoor
open Go.RowKit
open Go.Lib

theorem cut_one (s : Bt) (c : UInt8) (W : World) : Calls Tryd.prog 67 #[.string (bs s), .string ⟨#[c]⟩] W fun e w' => e = .returned (.tuple #[.string (bs (if s.head? = some c then s.drop 1 else s)), .bool (decide (s.head? = some c))]) ∧ w' = W := by
  have h := libCutPre (bs s) (bs [c]) W
  rw [bs_list, bs_list] at h
  have hp : Lib.hasPrefix s [c] = decide (s.head? = some c) := by
    unfold Lib.hasPrefix
    cases s with
    | nil => rfl
    | cons d r =>
      by_cases hd : d = c
      · subst hd
        simp [List.isPrefixOf]
      · have e1 : (c == d) = false := beq_eq_false_iff_ne.2 (Ne.symm hd)
        have e2 : ¬ (d :: r).head? = some c := fun e => hd (Option.some.inj e)
        rw [decide_eq_false e2]
        simp [List.isPrefixOf, e1]
  have ht : Lib.trimPrefix s [c] = if s.head? = some c then s.drop 1 else s := by
    unfold Lib.trimPrefix
    rw [hp]
    by_cases hd : s.head? = some c
    · rw [if_pos hd, decide_eq_true hd, if_pos rfl]; rfl
    · rw [if_neg hd, decide_eq_false hd, if_neg (by simp)]
  rw [hp, ht] at h
  exact h
theorem trim_minus (s : Bt) (W : World) : Calls Tryd.prog 78 #[.string (bs s), .string ⟨#[45]⟩] W fun e w' => e = .returned (.string (bs (s.drop (signL s)))) ∧ w' = W := by
  have h := libTrimPrefix (bs s) (bs [45]) W
  rw [bs_list, bs_list] at h
  have ht : Lib.trimPrefix s [45] = s.drop (signL s) := by
    unfold Lib.trimPrefix Lib.hasPrefix signL
    cases s with
    | nil => rfl
    | cons d r =>
      by_cases hd : d = 45
      · subst hd
        simp [List.isPrefixOf]
      · have e1 : ((45 : UInt8) == d) = false := beq_eq_false_iff_ne.2 (Ne.symm hd)
        have e2 : ¬ (d :: r).head? = some 45 := fun e => hd (Option.some.inj e)
        rw [if_neg e2]
        simp [List.isPrefixOf, e1]
  rw [ht] at h
  exact h
set_option maxRecDepth 100000 in
theorem bwhole_any (s : Bt) (w : World) : Calls Tryd.prog 77 #[.string (bs s)] w (FOut (wholeF s) w) := by
  have HC := Lib.hid (fun W => cut_one s 48 W)
  have HD := Lib.hid (fun W => digits_any s W)
  by_cases h : s.head? = some 48
  · rw [if_pos h, decide_eq_true h] at HC
    obtain ⟨r, hr⟩ : ∃ r, s.drop 1 = r := ⟨_, rfl⟩
    rw [hr] at HC
    have HW : Hid (wholeF s = some r) := Lib.hid (by unfold wholeF; rw [if_pos h, hr])
    clear h hr
    go_enter Tryd.func77, Tryd.ntmps77
    go_wp2_with (go_at_call 67; refine (HC.out _).mono ?_; rintro e w1 ⟨rfl, rfl⟩)
    go_ret2
    exact FOut.good HW.out (Below.refl _ _)
  · rw [if_neg h, decide_eq_false h] at HC
    have HW : Hid (digF s = wholeF s) := Lib.hid (by unfold wholeF; rw [if_neg h])
    rw [HW.out] at HD
    clear h
    go_enter Tryd.func77, Tryd.ntmps77
    go_wp2_with (first
      | (go_at_call 67; refine (HC.out _).mono ?_; rintro e w1 ⟨rfl, rfl⟩)
      | (go_at_call 79; (with_reducible refine (HD.out _).mono ?_); rintro e w1 ⟨rfl, b1⟩))
    go_ret2
    exact ⟨rfl, b1⟩
theorem start_exp (s : Bt) : startL s [101, 69] = decide (s.head? = some 101 ∨ s.head? = some 69) := by
  cases s with
  | nil => rfl
  | cons c r =>
    show decide (c ∈ ([101, 69] : Bt)) = _
    exact decide_eq_decide.2 (by simp)
theorem start_sign (s : Bt) : startL s [43, 45] = decide (s.head? = some 43 ∨ s.head? = some 45) := by
  cases s with
  | nil => rfl
  | cons c r =>
    show decide (c ∈ ([43, 45] : Bt)) = _
    exact decide_eq_decide.2 (by simp)
theorem slice_one7 (s : Bt) (h : s ≠ []) (W : World) : (Instr.slice 9 (.string (bs s)) (some (.int .i64 1)) none none).run Tryd.prog W = .ok (.string (bs (s.drop 1))) W := slice_tail s 1 1 rfl (List.length_pos_iff.2 h) _ rfl W
set_option maxRecDepth 100000 in
set_option maxHeartbeats 1000000 in
/-- The part behind e or E. -/
theorem bnum_any (s : Bt) (w : World) : Calls Tryd.prog 58 #[.string (bs s)] w (FOut (numF s) w) := by
  have HT := Lib.hid (fun W => trim_minus s W)
  have HD := Lib.hid digits_any
  obtain ⟨s1, hs1⟩ : ∃ r, s.drop (signL s) = r := ⟨_, rfl⟩
  have HN : Hid (numF s = match wholeF s1 with | none => none | some r => match fracF r with | none => none | some r => expF r) := Lib.hid (by unfold numF; rw [hs1]; rfl)
  rw [hs1] at HT
  clear hs1
  have HW := Lib.hid (fun W => bwhole_any s1 W)
  cases hw : wholeF s1 with
  | none =>
    rw [hw] at HN HW
    have HN' : Hid (numF s = none) := Lib.hid HN.out
    clear hw HN
    go_enter Tryd.func58, Tryd.ntmps58
    go_wp2_with (first
      | (go_at_call 78; refine (HT.out _).mono ?_; rintro e w1 ⟨rfl, rfl⟩)
      | (go_at_call 77; (with_reducible refine (HW.out _).mono ?_); rintro e w1 ⟨rfl, b1⟩))
    go_ret2
    exact FOut.bad HN'.out b1
  | some r1 =>
    rw [hw] at HN HW
    have HN1 : Hid (numF s = match fracF r1 with | none => none | some r => expF r) := Lib.hid HN.out
    clear hw HN
    have HC := Lib.hid (fun W => cut_one r1 46 W)
    -- behind the fraction
    have core : ∀ (r2 : Bt), numF s = expF r2 → (fracF r1 = some r2) → Calls Tryd.prog 58 #[.string (bs s)] w (FOut (numF s) w) := by
      intro r2 h2 hf2
      have HE := Lib.hid (fun W => starts_w r2 [101, 69] W)
      rw [start_exp] at HE
      by_cases he : r2.head? = some 101 ∨ r2.head? = some 69
      · rw [decide_eq_true he] at HE
        obtain ⟨p, hp⟩ : ∃ p, r2.drop 1 = p := ⟨_, rfl⟩
        have hne : r2 ≠ [] := by rintro rfl; simp at he
        have hsl := slice_one7 r2 hne
        rw [hp] at hsl
        have HS := Lib.hid (fun W => starts_w p [43, 45] W)
        rw [start_sign] at HS
        have hlen : 1 ≤ (bs r2).size := by rw [bs_size]; exact List.length_pos_iff.2 hne
        by_cases hg : p.head? = some 43 ∨ p.head? = some 45
        · rw [decide_eq_true hg] at HS
          obtain ⟨q, hq⟩ : ∃ p', p.drop 1 = p' := ⟨_, rfl⟩
          have hne2 : p ≠ [] := by rintro rfl; simp at hg
          have hsl2 := slice_one7 p hne2
          rw [hq] at hsl2
          have hlen2 : 1 ≤ (bs p).size := by rw [bs_size]; exact List.length_pos_iff.2 hne2
          have HQ : Hid (numF s = digF q) := Lib.hid (by
            rw [h2]
            unfold expF
            rw [if_pos he, hp]
            unfold expSL
            rw [if_pos hg, show 1 + 1 = 2 from rfl, ← hq, ← hp, List.drop_drop])
          have HDQ := Lib.hid (fun W => HD.out q W)
          rw [← HQ.out] at HDQ
          by_cases hd : r1.head? = some 46
          · rw [if_pos hd, decide_eq_true hd] at HC
            obtain ⟨x1, hx1⟩ : ∃ x, r1.drop 1 = x := ⟨_, rfl⟩
            have HDF := Lib.hid (fun W => HD.out x1 W)
            rw [hx1] at HC
            have hff : digF x1 = some r2 := by rw [← hf2]; unfold fracF; rw [if_pos hd, hx1]
            rw [hff] at HDF
            clear he hp hg hq h2 hf2 hd hff hne hne2 hx1
            go_enter Tryd.func58, Tryd.ntmps58
            go_wp2_with (first
              | (go_at_call 78; refine (HT.out _).mono ?_; rintro e w1 ⟨rfl, rfl⟩)
              | (go_at_call 77; (with_reducible refine (HW.out _).mono ?_); rintro e w1 ⟨rfl, b1⟩)
              | (go_at_call 67; refine (HC.out _).mono ?_; rintro e w2 ⟨rfl, rfl⟩)
              | (go_at_call 79; (with_reducible refine (HDF.out _).mono ?_); clear HDF; rintro e w3 ⟨rfl, b3⟩)
              | (go_at_call 80; refine (HE.out _).mono ?_; clear HE; rintro e w4 ⟨rfl, rfl⟩)
              | (go_at_call 80; refine (HS.out _).mono ?_; clear HS; rintro e w5 ⟨rfl, rfl⟩)
              | (go_at_call 79; (with_reducible refine (HDQ.out _).mono ?_); rintro e w6 ⟨rfl, b6⟩))
            go_ret2
            exact ⟨rfl, (b1.trans (b3.mono b1.size)).trans (b6.mono (b1.trans (b3.mono b1.size)).size)⟩
          · rw [if_neg hd, decide_eq_false hd] at HC
            have hff : r1 = r2 := by unfold fracF at hf2; rw [if_neg hd] at hf2; exact Option.some.inj hf2
            subst hff
            clear he hp hg hq h2 hf2 hd hne hne2
            go_enter Tryd.func58, Tryd.ntmps58
            go_wp2_with (first
              | (go_at_call 78; refine (HT.out _).mono ?_; rintro e w1 ⟨rfl, rfl⟩)
              | (go_at_call 77; (with_reducible refine (HW.out _).mono ?_); rintro e w1 ⟨rfl, b1⟩)
              | (go_at_call 67; refine (HC.out _).mono ?_; rintro e w2 ⟨rfl, rfl⟩)
              | (go_at_call 80; refine (HE.out _).mono ?_; clear HE; rintro e w4 ⟨rfl, rfl⟩)
              | (go_at_call 80; refine (HS.out _).mono ?_; clear HS; rintro e w5 ⟨rfl, rfl⟩)
              | (go_at_call 79; (with_reducible refine (HDQ.out _).mono ?_); rintro e w6 ⟨rfl, b6⟩))
            go_ret2
            exact ⟨rfl, b1.trans (b6.mono b1.size)⟩
        · rw [decide_eq_false hg] at HS
          have HQ : Hid (numF s = digF p) := Lib.hid (by
            rw [h2]
            unfold expF
            rw [if_pos he, hp]
            unfold expSL
            rw [if_neg hg, ← hp])
          have HDQ := Lib.hid (fun W => HD.out p W)
          rw [← HQ.out] at HDQ
          by_cases hd : r1.head? = some 46
          · rw [if_pos hd, decide_eq_true hd] at HC
            obtain ⟨x1, hx1⟩ : ∃ x, r1.drop 1 = x := ⟨_, rfl⟩
            have HDF := Lib.hid (fun W => HD.out x1 W)
            rw [hx1] at HC
            have hff : digF x1 = some r2 := by rw [← hf2]; unfold fracF; rw [if_pos hd, hx1]
            rw [hff] at HDF
            clear he hp hg h2 hf2 hd hff hne hx1
            go_enter Tryd.func58, Tryd.ntmps58
            go_wp2_with (first
              | (go_at_call 78; refine (HT.out _).mono ?_; rintro e w1 ⟨rfl, rfl⟩)
              | (go_at_call 77; (with_reducible refine (HW.out _).mono ?_); rintro e w1 ⟨rfl, b1⟩)
              | (go_at_call 67; refine (HC.out _).mono ?_; rintro e w2 ⟨rfl, rfl⟩)
              | (go_at_call 79; (with_reducible refine (HDF.out _).mono ?_); clear HDF; rintro e w3 ⟨rfl, b3⟩)
              | (go_at_call 80; refine (HE.out _).mono ?_; clear HE; rintro e w4 ⟨rfl, rfl⟩)
              | (go_at_call 80; refine (HS.out _).mono ?_; clear HS; rintro e w5 ⟨rfl, rfl⟩)
              | (go_at_call 79; (with_reducible refine (HDQ.out _).mono ?_); rintro e w6 ⟨rfl, b6⟩))
            go_ret2
            exact ⟨rfl, (b1.trans (b3.mono b1.size)).trans (b6.mono (b1.trans (b3.mono b1.size)).size)⟩
          · rw [if_neg hd, decide_eq_false hd] at HC
            have hff : r1 = r2 := by unfold fracF at hf2; rw [if_neg hd] at hf2; exact Option.some.inj hf2
            subst hff
            clear he hp hg h2 hf2 hd hne
            go_enter Tryd.func58, Tryd.ntmps58
            go_wp2_with (first
              | (go_at_call 78; refine (HT.out _).mono ?_; rintro e w1 ⟨rfl, rfl⟩)
              | (go_at_call 77; (with_reducible refine (HW.out _).mono ?_); rintro e w1 ⟨rfl, b1⟩)
              | (go_at_call 67; refine (HC.out _).mono ?_; rintro e w2 ⟨rfl, rfl⟩)
              | (go_at_call 80; refine (HE.out _).mono ?_; clear HE; rintro e w4 ⟨rfl, rfl⟩)
              | (go_at_call 80; refine (HS.out _).mono ?_; clear HS; rintro e w5 ⟨rfl, rfl⟩)
              | (go_at_call 79; (with_reducible refine (HDQ.out _).mono ?_); rintro e w6 ⟨rfl, b6⟩))
            go_ret2
            exact ⟨rfl, b1.trans (b6.mono b1.size)⟩
      · rw [decide_eq_false he] at HE
        have HQ : Hid (numF s = some r2) := Lib.hid (by
          rw [h2]
          unfold expF
          rw [if_neg he])
        by_cases hd : r1.head? = some 46
        · rw [if_pos hd, decide_eq_true hd] at HC
          obtain ⟨x1, hx1⟩ : ∃ x, r1.drop 1 = x := ⟨_, rfl⟩
          have HDF := Lib.hid (fun W => HD.out x1 W)
          rw [hx1] at HC
          have hff : digF x1 = some r2 := by rw [← hf2]; unfold fracF; rw [if_pos hd, hx1]
          rw [hff] at HDF
          clear he h2 hf2 hd hff hx1
          go_enter Tryd.func58, Tryd.ntmps58
          go_wp2_with (first
            | (go_at_call 78; refine (HT.out _).mono ?_; rintro e w1 ⟨rfl, rfl⟩)
            | (go_at_call 77; (with_reducible refine (HW.out _).mono ?_); rintro e w1 ⟨rfl, b1⟩)
            | (go_at_call 67; refine (HC.out _).mono ?_; rintro e w2 ⟨rfl, rfl⟩)
            | (go_at_call 79; (with_reducible refine (HDF.out _).mono ?_); clear HDF; rintro e w3 ⟨rfl, b3⟩)
            | (go_at_call 80; refine (HE.out _).mono ?_; clear HE; rintro e w4 ⟨rfl, rfl⟩))
          go_ret2
          exact FOut.good HQ.out (b1.trans (b3.mono b1.size))
        · rw [if_neg hd, decide_eq_false hd] at HC
          have hff : r1 = r2 := by unfold fracF at hf2; rw [if_neg hd] at hf2; exact Option.some.inj hf2
          subst hff
          clear he h2 hf2 hd
          go_enter Tryd.func58, Tryd.ntmps58
          go_wp2_with (first
            | (go_at_call 78; refine (HT.out _).mono ?_; rintro e w1 ⟨rfl, rfl⟩)
            | (go_at_call 77; (with_reducible refine (HW.out _).mono ?_); rintro e w1 ⟨rfl, b1⟩)
            | (go_at_call 67; refine (HC.out _).mono ?_; rintro e w2 ⟨rfl, rfl⟩)
            | (go_at_call 80; refine (HE.out _).mono ?_; clear HE; rintro e w4 ⟨rfl, rfl⟩))
          go_ret2
          exact FOut.good HQ.out b1
    cases hf : fracF r1 with
    | some r2 =>
      have := HN1.out
      rw [hf] at this
      exact core r2 this hf
    | none =>
      have hn := HN1.out
      rw [hf] at hn
      have HNN : Hid (numF s = none) := Lib.hid hn
      by_cases hd : r1.head? = some 46
      · rw [if_pos hd, decide_eq_true hd] at HC
        obtain ⟨x1, hx1⟩ : ∃ x, r1.drop 1 = x := ⟨_, rfl⟩
        have HDF := Lib.hid (fun W => HD.out x1 W)
        rw [hx1] at HC
        have hff : digF x1 = none := by rw [← hf]; unfold fracF; rw [if_pos hd, hx1]
        rw [hff] at HDF
        clear core hd hff hn hf HN1 hx1
        go_enter Tryd.func58, Tryd.ntmps58
        go_wp2_with (first
          | (go_at_call 78; refine (HT.out _).mono ?_; rintro e w1 ⟨rfl, rfl⟩)
          | (go_at_call 77; (with_reducible refine (HW.out _).mono ?_); rintro e w1 ⟨rfl, b1⟩)
          | (go_at_call 67; refine (HC.out _).mono ?_; rintro e w2 ⟨rfl, rfl⟩)
          | (go_at_call 79; (with_reducible refine (HDF.out _).mono ?_); rintro e w3 ⟨rfl, b3⟩))
        go_ret2
        exact FOut.bad HNN.out (b1.trans (b3.mono b1.size))
      · unfold fracF at hf
        rw [if_neg hd] at hf
        cases hf
set_option maxRecDepth 100000 in
theorem isnum_any (s : Bt) (w : World) : Calls Tryd.prog 40 #[.string (bs s)] w fun e w' => e = .returned (.bool (numF s == some [])) ∧ Below w.heap.size w w' := by
  have HB := Lib.hid (fun W => bnum_any s W)
  cases hf : numF s with
  | none =>
    rw [hf] at HB
    go_enter Tryd.func40, Tryd.ntmps40
    go_wp2_with (go_at_call 58; (with_reducible refine (HB.out _).mono ?_); rintro e w1 ⟨rfl, b1⟩)
    go_ret
    exact ⟨rfl, b1⟩
  | some r =>
    rw [hf] at HB
    go_enter Tryd.func40, Tryd.ntmps40
    go_wp2_with (go_at_call 58; (with_reducible refine (HB.out _).mono ?_); rintro e w1 ⟨rfl, b1⟩)
    go_ret
    refine ⟨ret_b6 ?_, b1⟩
    rw [Lib.toList_data, bs_list]
    cases r <;> rfl
/-- How many bytes at the front are in quotes, the quotes with them; 0: none. -/
def qwL (s : Bt) : Nat := match s with | [] => 0 | c :: u => if c = 34 then (match scanQ u with | none => 0 | some (a, _) => a.length + 2) else 0
set_option maxRecDepth 100000 in
set_option maxHeartbeats 1000000 in
theorem qwidth_any (s : Bt) (w : World) (hs : s.length ≤ 1000000000) : Calls Tryd.prog 69 #[.string (bs s)] w fun e w' => e = .returned (.int .i64 (qwL s)) ∧ w' = w := by
  have HS := Lib.hid (fun W => starts_w s [34] W)
  by_cases h34 : s.head? = some 34
  · obtain ⟨u, hu⟩ : ∃ u, s = 34 :: u := by
      cases s with
      | nil => cases h34
      | cons c u => exact ⟨u, by rw [Option.some.inj h34]⟩
    rw [show startL s [34] = true by rw [hu]; rfl] at HS
    have HQ : Hid (qwL s = match scanQ u with | none => 0 | some (a, _) => a.length + 2) := Lib.hid (by rw [hu]; rfl)
    have hn : s.length = u.length + 1 := by rw [hu]; rfl
    obtain ⟨n, hnn⟩ : ∃ n, u.length = n := ⟨_, rfl⟩
    rw [hnn] at hn
    have hsz : (bs s).size = n + 1 := by rw [bs_size, hn]
    have HUI : Hid (∀ i (hi : i < u.length), ∃ hs' : i + 1 < s.length, s[i + 1] = u[i]) := Lib.hid (fun i hi => ⟨by rw [hn]; omega, by subst hu; rfl⟩)
    have HNN := Lib.hid hnn
    have HN := Lib.hid hn
    rw [hn] at hs
    clear h34 hu hn hnn
    go_enter Tryd.func69, Tryd.ntmps69
    go_wp2_with (go_at_call 80; refine (HS.out _).mono ?_; rintro e w1 ⟨rfl, rfl⟩)
    go_loopw [3] (fun v wr => ∃ i : Nat, i ≤ n + 1 ∧ v = .int .i64 ((i + 1 : Nat) : Int) ∧ Hid (scanSt u i) ∧ wr = w1) (fun v _ => n + 3 - (RowKit.intOf v).toNat)
    case atStart => exact ⟨0, by omega, by rfl, Lib.hid (scanSt_zero u), rfl⟩
    case round =>
      obtain ⟨i, hiu, rfl, HSC, rfl⟩ := hrel
      obtain ⟨p, hp⟩ : ∃ p, i + 1 = p := ⟨_, rfl⟩
      rw [hp]
      by_cases hin : i < n
      · obtain ⟨hps, hpv⟩ := HUI.out i (by rw [HNN.out]; exact hin)
        have hiu' : i < u.length := by rw [HNN.out]; exact hin
        have hps' : p < s.length := by rw [← hp]; exact hps
        have hpv' : s[p] = u[i] := by subst hp; exact hpv
        have i2' : (0 : Int) ≤ (p : Int) := by omega
        have i3' : (p : Int) < (n : Int) + 1 := by omega
        have hdk : decide ((p : Int) < (n : Int) + 1) = true := decide_eq_true i3'
        by_cases hc : u[i] = 34
        · have hix := byte_run s p 34 hps' (by rw [hpv', hc]; rfl)
          have he := scanSt_end hiu' HSC.out hc
          have HE : Hid (qwL s = p + 1) := Lib.hid (by
            rw [HQ.out, he]
            show (u.take i).length + 2 = p + 1
            rw [List.length_take]
            omega)
          clear he hpv hpv' hc
          go_wp2
          go_ret
          exact ⟨ret_i6 (by rw [HE.out]; omega), rfl⟩
        · by_cases hc2 : u[i] = 92
          · have hix := byte_run s p 92 hps' (by rw [hpv', hc2]; rfl)
            have HS2 := Lib.hid (scanSt_two hiu' HSC.out hc2)
            clear hpv hpv' hc hc2 HSC
            go_wp2
            exact ⟨⟨i + 2, by omega, (by rw [← hp]; first | rfl | (congr 1; omega)), HS2, trivial⟩, by show n + 3 - ((p : Int) + 1 + 1).toNat < n + 3 - (p : Int).toNat; omega⟩
          · obtain ⟨z, hz⟩ : ∃ z, (u[i].toNat : Int) = z := ⟨_, rfl⟩
            have hix := byte_run s p z hps' (by rw [hpv']; exact hz)
            have e1 : (z == 34) = false := by rw [← hz]; exact ne_byte (d := 34) hc
            have e2 : (z == 92) = false := by rw [← hz]; exact ne_byte (d := 92) hc2
            have HS2 := Lib.hid (scanSt_one hiu' HSC.out hc hc2)
            clear hpv hpv' hc hc2 HSC hz
            go_wp2
            exact ⟨⟨i + 1, by omega, (by rw [← hp]; first | rfl | (congr 1; omega)), HS2, trivial⟩, by show n + 3 - ((p : Int) + 1).toNat < n + 3 - (p : Int).toNat; omega⟩
      · have hnone := scanSt_none (by rw [HNN.out]; omega) HSC.out
        have HE : Hid (qwL s = 0) := Lib.hid (by rw [HQ.out, hnone])
        have hdk : decide ((p : Int) < (n : Int) + 1) = false := decide_eq_false (by omega)
        clear hnone
        go_wp2
        go_ret
        exact ⟨ret_i6 (by rw [HE.out]; rfl), rfl⟩
  · have hst : startL s [34] = false := by
      cases s with
      | nil => rfl
      | cons c u =>
        show decide (c ∈ ([34] : Bt)) = false
        exact decide_eq_false (fun h => h34 (by rw [List.mem_singleton] at h; rw [h]; rfl))
    have HE : Hid (qwL s = 0) := Lib.hid (by
      cases s with
      | nil => rfl
      | cons c u =>
        unfold qwL
        exact if_neg (fun e => h34 (by rw [e]; rfl)))
    rw [hst] at HS
    clear h34 hst
    go_enter Tryd.func69, Tryd.ntmps69
    go_wp2_with (go_at_call 80; refine (HS.out _).mono ?_; rintro e w1 ⟨rfl, rfl⟩)
    go_ret
    exact ⟨ret_i6 (by rw [HE.out]; rfl), rfl⟩
end Go.Proofs.YtchgelfomnbpaaaDoor
