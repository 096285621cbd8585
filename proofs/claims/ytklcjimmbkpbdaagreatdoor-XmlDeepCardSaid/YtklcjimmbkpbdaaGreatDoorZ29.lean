/-
  One piece of an element's content, as the document reads it. Conditions: modest lengths.
-/
import Derived.Test.YtklcjimmbkpbdaaGreatDoorZ28
import Derived.Test.YtklcjimmbkpbdaaGreatDoorZ02
namespace Go.Proofs.YtklcjimmbkpbdaaGreatDoor
open Go.RowKit
open Go.Lib
def pieceX (d : Nat) (sc : XS) (s : Bt) (ks : List XV) (t : Bt) : Except Int (Bt × List XV × Bt) :=
 match wordL cdataW s with
 | some r => (match toL cdendW r with
  | none => .error 70
  | some (a, r') => .ok (r', ks, t ++ linesL a))
 | none => match asideL s with
  | none => .error 70
  | some (some r) => .ok (r, ks, t)
  | some none => match wordL [60] s with
   | some r => (match elemX d sc r with
    | .error e => .error e
    | .ok (v, r') => .ok (r', allX ks t ++ [v], []))
   | none => match textL s with
    | none => .error 70
    | some (x, r) => .ok (r, ks, t ++ x)
theorem piece_part (d : Nat) (sc : XS) (s : Bt) (ks : List XV) (t : Bt) : pieceX d sc s ks t = partX d sc s ks t := by
 unfold pieceX partX asideL
 cases h1 : wordL [60, 33, 45, 45] s with
 | some r =>
  simp only [word_excl h1 (w' := cdataW) (by decide) (by decide)]
  cases remL r <;> rfl
 | none =>
  simp only
  cases h2 : wordL [60, 63] s with
  | some r =>
   simp only [word_excl h2 (w' := cdataW) (by decide) (by decide)]
   cases insL r <;> rfl
  | none => rfl
theorem kids_piece {d : Nat} {sc : XS} {s : Bt} {ks : List XV} {t : Bt} (h : wordL [60, 47] s = none) : kidsX d sc s ks t = match pieceX d sc s ks t with
    | .error e => .error e
    | .ok (r, ks', t') => kidsX d sc r ks' t' := by rw [piece_part]; exact kids_part h
def ElO (X : Nat) (s : Bt) (o : Except Int (XV × Bt)) (w : World) (e : Ending) (w' : World) : Prop := OX X w w' ∧ match o with
 | .error z => e = .returned (.tuple #[zNV, .int .i64 z]) ∧ z ≠ 0
 | .ok (v, r') => ∃ x, e = .returned (.tuple #[x, .int .i64 0]) ∧ XR w' (fun b => w.heap.size ≤ b ∧ b < w'.heap.size) v x ∧ TL X s r' w' ∧ v.name ≠ []
def ElC (d : Nat) : Prop := ∀ (X : Nat) (s r : Bt) (w : World) (TV : Nat → Prop) (A : Option Addr) (c : Nat) (sc : XS), TL X s r w → s.length ≤ 65536 → RC w TV A (cS sc) → (∀ b, TV b → b ≠ X) → sc.length + r.length ≤ 100000 → (findX sc []).isSome = true →
 Calls Tryz.prog 34 #[.pointer (some ⟨X, 0, none⟩), .int .i64 d, .slice A sc.length c] w (ElO X s (elemX d sc r) w)
def PF (X N : Nat) (b : Nat) : Prop := b = X ∨ N ≤ b
def PcO (X B R N : Nat) (s sp nm : Bt) (al : List XA) (av : Value) (o : Except Int (Bt × List XV × Bt)) (w : World) (e : Ending) (w' : World) : Prop := Off (PF X N) w w' ∧ match o with
 | .error z => e = .returned (.int .i64 z) ∧ z ≠ 0
 | .ok (r', ks', t') => e = .returned (.int .i64 0) ∧ TL X s r' w' ∧ (∃ kv' cs', NSt B R N sp nm al (allX ks' t') av kv' cs' w') ∧ LastE ks'
section
variable {X B R N : Nat} {s sp nm : Bt} {al : List XA} {av : Value} {o : Except Int (Bt × List XV × Bt)} {w w' : World}
theorem PcO.bad {z : Int} (h : o = .error z) (hz : z ≠ 0) (ho : Off (PF X N) w w') : PcO X B R N s sp nm al av o w (.returned (.int .i64 z)) w' := by subst h; exact ⟨ho, rfl, hz⟩
theorem PcO.good {r' : Bt} {ks' : List XV} {t' : Bt} {kv' : Value} {cs' : List Value} (h : o = .ok (r', ks', t')) (ho : Off (PF X N) w w') (ht : TL X s r' w') (hn : NSt B R N sp nm al (allX ks' t') av kv' cs' w') (hl : LastE ks') : PcO X B R N s sp nm al av o w (.returned (.int .i64 0)) w' := by subst h; exact ⟨ho, rfl, ht, ⟨kv', cs', hn⟩, hl⟩
theorem OX.pf {a b : World} (h : OX X a b) : Off (PF X N) a b := h.mono (fun _ h => .inl h)
theorem PF.of {a b : World} (h : Off (fun k => N ≤ k) a b) : Off (PF X N) a b := h.mono (fun _ h => .inr h)
theorem PF.trans {a b c : World} (h1 : Off (PF X N) a b) (h2 : Off (PF X N) b c) : Off (PF X N) a c := Off.trans h1 h2 (fun _ h => .inl h)
end
theorem pre_tw : ∀ (wd u : Bt), wd.all ltN = true → wd.isPrefixOf u = wd.isPrefixOf (u.takeWhile ltN)
 | [], u, _ => by simp [List.isPrefixOf]
 | a :: wd, [], _ => rfl
 | a :: wd, c :: u, h => by
  rw [List.all_cons, Bool.and_eq_true] at h
  by_cases hc : ltN c = true
  ·rw [List.takeWhile_cons_of_pos hc]
   show ((a == c) && wd.isPrefixOf u) = ((a == c) && wd.isPrefixOf (u.takeWhile ltN))
   rw [pre_tw wd u h.2]
  ·rw [List.takeWhile_cons_of_neg hc]
   show ((a == c) && wd.isPrefixOf u) = false
   have : (a == c) = false := by
    rw [beq_eq_false_iff_ne]
    intro e
    rw [e] at h
    exact hc h.1
   rw [this, Bool.false_and]
theorem to_isSome_cons {wd : Bt} {c : UInt8} {u : Bt} (h : wd.isPrefixOf (c :: u) = false) : (toL wd (c :: u)).isSome = (toL wd u).isSome := by
 rw [toL, if_neg (by rw [h]; exact Bool.false_ne_true)]
 cases toL wd u <;> rfl
theorem to_isSome_yes {wd : Bt} {c : UInt8} {u : Bt} (h : wd.isPrefixOf (c :: u) = true) : (toL wd (c :: u)).isSome = true := by
 rw [toL, if_pos h]
 rfl
theorem text_split (r : Bt) : textL r = if (toL cdendW (r.takeWhile ltN)).isSome = true ∨ r.dropWhile ltN = [] then none else (refsL (linesL (r.takeWhile ltN))).map fun x => (x, r.dropWhile ltN) := rfl
theorem refs_le : ∀ (l x : Bt), refsL l = some x → x.length ≤ l.length := fun l x h => refs_len _ l x (Nat.le_refl _) h
theorem lt_ne {c : UInt8} (h : ltN c = true) : ((c.toNat : Int) == 60) = false ∧ ((c.toNat : Int) != 60) = true ∧ ¬ (c.toNat : Int) = 60 := by
 have hne : c ≠ 60 := by intro e; subst e; revert h; decide
 have h1 : ¬ (c.toNat : Int) = 60 := fun hh => hne (UInt8.toNat_inj.1 (show c.toNat = 60 by omega))
 exact ⟨by simpa using h1, by simp [h1], h1⟩
theorem lt_eq {c : UInt8} (h : ltN c = false) : c = 60 := by
 unfold ltN at h
 simpa using h
set_option maxRecDepth 100000 in
set_option maxHeartbeats 2000000 in
theorem tpiece8 {d : Nat} (hEl : ElC (d + 1)) (hd : d ≤ 23) {X B R N : Nat} {s r sp nm t : Bt} {al : List XA} {ks : List XV} {av kv : Value} {cs : List Value} {w : World} {TV : Nat → Prop} {A : Option Addr} {c : Nat} {sc : XS}
    (h : TL X s r w) (H : NSt B R N sp nm al (allX ks t) av kv cs w) (hE : LastE ks) (hS : RC w TV A (cS sc)) (hTS : ∀ b, TV b → b < N ∧ b ≠ X) (hXB : X < B) (hs : s.length ≤ 65536) (hpot : 2 * ks.length + t.length + 2 * r.length ≤ 400000) (hsc : sc.length + r.length ≤ 100000) (hfd : (findX sc []).isSome = true) (o : Except Int (Bt × List XV × Bt)) (ho : pieceX (d + 1) sc r ks t = o) :
    Calls Tryz.prog 59 #[.pointer (some ⟨X, 0, none⟩), .pointer (some ⟨N, 0, none⟩), .int .i64 d, .slice A sc.length c] w (PcO X B R N s sp nm al av o w) := by
 have hs9 : s.length ≤ 1000000000 := by omega
 have hBR := H.bR
 have hRN := H.rN
 have hNw := H.blk.lt
 have hrs := h.le
 have HAL := hid (allX_len ks t)
 have HW1 : Hid (WdC X s cdataW ⟨#[60, 33, 91, 67, 68, 65, 84, 65, 91]⟩) := hid (wdC X hs9 cdataW (by decide) (by decide))
 have HW2 : Hid (WdC X s [60] ⟨#[60]⟩) := hid (wdC X hs9 [60] (by decide) (by decide))
 unfold WdC at HW1 HW2
 have HY : Hid (ToY X s cdendW ⟨#[93, 93, 62]⟩) := hid (toY X hs9 cdendW (by decide) (by decide))
 have HNo : Hid (ToN X s cdendW ⟨#[93, 93, 62]⟩) := hid (toN X hs9 cdendW (by decide) (by decide))
 unfold ToY at HY
 unfold ToN at HNo
 have HAS := hid (fun W q (hW : TL X s q W) oo (hoo : asideL q = oo) => taside8 hW hs9 oo hoo)
 unfold AsO at HAS
 have HLN := hid (fun (x : Bt) (hx : x.length ≤ 1000000) W => rlines_any x W hx)
 have HRF := hid (fun (x : Bt) (hx : x.length ≤ 1000000) W => rrefs_any x W hx)
 unfold RfO at HRF
 have HADD : Hid (∀ W kv cs x, NSt B R N sp nm al (allX ks t) av kv cs W → x.length ≤ 500000 → Calls Tryz.prog 87 #[.pointer (some ⟨N, 0, none⟩), .string (bs x)] W (AddO B R N sp nm al (allX ks (t ++ x)) av W)) := hid (fun W kv cs x hW hx => radd_any hW hE (by omega) (by omega))
 unfold AddO at HADD
 have HQ : Hid (o = match wordL cdataW r with
  | some r => (match toL cdendW r with
   | none => .error 70
   | some (a, r') => .ok (r', ks, t ++ linesL a))
  | none => match asideL r with
   | none => .error 70
   | some (some r) => .ok (r, ks, t)
   | some none => match wordL [60] r with
    | some r => (match elemX (d + 1) sc r with
     | .error e => .error e
     | .ok (v, r') => .ok (r', allX ks t ++ [v], []))
    | none => match textL r with
     | none => .error 70
     | some (x, r) => .ok (r, ks, t ++ x)) := hid ho.symm
 have HE := hid hE
 have HT0 := hid h
 have HH0 := hid H
 have HEL : Hid (∀ W q, TL X s q W → RC W TV A (cS sc) → sc.length + q.length ≤ 100000 → Calls Tryz.prog 34 #[.pointer (some ⟨X, 0, none⟩), .int .i64 ((d : Int) + 1), .slice A sc.length c] W (ElO X s (elemX (d + 1) sc q) W)) := hid (fun W q h1 h2 h3 => hEl X s q W TV A c sc h1 hs h2 (fun b hb => (hTS b hb).2) h3 hfd)
 have HSC := hid hS
 have HTS := hid hTS
 have HPOT := hid hpot
 have HSL := hid hsc
 have HS9 := hid hs
 obtain ⟨nS, hnS⟩ : ∃ n, sc.length = n := ⟨_, rfl⟩
 rw [hnS] at HEL HSL ⊢
 clear hEl h H hE hS hTS hpot hsc ho hnS hs
 cases h1 : wordL cdataW r with
 | some r1 =>
  have HC1 := hid (HW1.out _ _ _ HT0.out h1)
  have hl1 := word_len h1
  cases h2 : toL cdendW r1 with
  | none =>
   have HF : Hid (o = .error 70) := hid (by rw [HQ.out, h1]; simp only [h2])
   have HC2 := hid (fun W hW => HNo.out W r1 hW h2)
   clear h1 h2 HQ hl1
   go_enter Tryz.func59, Tryz.ntmps59
   go_wp2_with fail
   refine HC1.out.mono ?_
   rintro e w1 ⟨rfl, t1, o1⟩
   go_wp2_with fail
   refine (HC2.out _ t1).mono ?_
   rintro e w2 ⟨rfl, o2⟩
   have HO := hid (OX.trans o1 o2)
   clear t1 o1 o2
   go_wp2
   go_ret
   exact PcO.bad HF.out (by decide) (OX.pf HO.out)
  | some y =>
   obtain ⟨a, r2⟩ := y
   have HF : Hid (o = .ok (r2, ks, t ++ linesL a)) := hid (by rw [HQ.out, h1]; simp only [h2])
   have HC2 := hid (fun W hW => HY.out W r1 a r2 hW h2)
   have hl2 := to_len h2
   have hl3 := lines_le a
   have hl4 := HPOT.out
   have HC3 := hid (fun W => HLN.out a (by omega) W)
   have HC4 := hid (fun W kv cs hW => HADD.out W kv cs (linesL a) hW (by omega))
   obtain ⟨q, hq⟩ : ∃ q, linesL a = q := ⟨_, rfl⟩
   rw [hq] at HF HC3 HC4
   clear h1 h2 HQ hl1 hl2 hl3 hl4 hq
   go_enter Tryz.func59, Tryz.ntmps59
   go_wp2_with fail
   refine HC1.out.mono ?_
   rintro e w1 ⟨rfl, t1, o1⟩
   go_wp2_with fail
   refine (HC2.out _ t1).mono ?_
   rintro e w2 ⟨rfl, t2, o2⟩
   go_wp2_with fail
   refine (HC3.out _).mono ?_
   rintro e w3 ⟨rfl, b3⟩
   have o3 := OX.trans (OX.trans o1 o2) (OX.of b3)
   have H3 := HH0.out.ox o3 hXB
   have t3 := t2.below b3
   have HO3 := hid o3
   clear t1 o1 t2 o2 b3 o3
   go_wp2_with fail
   refine (HC4.out _ _ _ H3).mono ?_
   rintro e w4 ⟨rfl, o4, kv4, cs4, H4⟩
   have HO4 := hid (PF.trans (OX.pf (N := N) HO3.out) (PF.of o4))
   have HT4 := hid (t3.off o4 (fun e => by omega))
   have HN4 := hid H4
   clear t3 H3 o4 H4
   go_wp2
   go_ret
   exact PcO.good HF.out HO4.out HT4.out HN4.out HE.out
 | none =>
  have HC1 := hid (HW1.out _ _ _ HT0.out h1)
  cases h2 : asideL r with
  | none =>
   have HF : Hid (o = .error 70) := hid (by rw [HQ.out, h1]; simp only [h2])
   have HC2 := hid (fun W (hW : TL X s r W) => HAS.out W r hW _ h2)
   clear h1 h2 HQ
   go_enter Tryz.func59, Tryz.ntmps59
   go_wp2_with fail
   refine HC1.out.mono ?_
   rintro e w1 ⟨rfl, t1, o1⟩
   go_wp2_with fail
   refine (HC2.out _ t1).mono ?_
   rintro e w2 ⟨o2, rfl⟩
   have HO := hid (OX.trans o1 o2)
   clear t1 o1 o2
   go_wp2
   go_ret
   exact PcO.bad HF.out (by decide) (OX.pf HO.out)
  | some y =>
   cases y with
   | some r1 =>
    have HF : Hid (o = .ok (r1, ks, t)) := hid (by rw [HQ.out, h1]; simp only [h2])
    have HC2 := hid (fun W (hW : TL X s r W) => HAS.out W r hW _ h2)
    clear h1 h2 HQ
    go_enter Tryz.func59, Tryz.ntmps59
    go_wp2_with fail
    refine HC1.out.mono ?_
    rintro e w1 ⟨rfl, t1, o1⟩
    go_wp2_with fail
    refine (HC2.out _ t1).mono ?_
    rintro e w2 ⟨o2, rfl, t2⟩
    have HO := hid (OX.trans o1 o2)
    have HT2 := hid t2
    have HN2 := hid (HH0.out.ox HO.out hXB)
    clear t1 o1 o2 t2
    go_wp2
    go_ret
    exact PcO.good HF.out (OX.pf HO.out) HT2.out HN2.out HE.out
   | none =>
    have HC2 := hid (fun W (hW : TL X s r W) => HAS.out W r hW _ h2)
    cases h3 : wordL [60] r with
    | some r1 =>
     have HC3 := hid (fun W (hW : TL X s r W) => HW2.out W r _ hW h3)
     have HQ3 : Hid (o = match elemX (d + 1) sc r1 with
      | .error e => .error e
      | .ok (v, r') => .ok (r', allX ks t ++ [v], [])) := hid (by rw [HQ.out, h1]; simp only [h2, h3])
     have hl1 := word_len h3
     have HC4 := hid (fun W hW hR => HEL.out W r1 hW hR (by have := HSL.out; omega))
     clear h1 h2 h3 HQ hl1
     unfold ElO at HC4
     cases h4 : elemX (d + 1) sc r1 with
     | error z =>
      have HF : Hid (o = .error z) := hid (by rw [HQ3.out, h4])
      rw [h4] at HC4
      clear h4 HQ3
      go_enter Tryz.func59, Tryz.ntmps59
      go_wp2_with fail
      refine HC1.out.mono ?_
      rintro e w1 ⟨rfl, t1, o1⟩
      go_wp2_with fail
      refine (HC2.out _ t1).mono ?_
      rintro e w1b ⟨o1b, rfl, t1b⟩
      go_wp2_with fail
      refine (HC3.out _ t1b).mono ?_
      rintro e w2 ⟨rfl, t2, o2⟩
      have o02 := OX.trans (OX.trans o1 o1b) o2
      have hS2 := HSC.out.off o02 (fun b hb e => (HTS.out b hb).2 e)
      have t2' : TL X s r1 w2 := t2
      have HO2 := hid o02
      have HN2 := hid (HH0.out.ox o02 hXB)
      clear t1 o1 o1b t1b o2 o02 t2
      go_wp2_with fail
      refine (HC4.out _ t2' hS2).mono ?_
      clear t2' hS2
      rintro e w3 ⟨o3, rfl, hz⟩
      have HZ := hid hz
      have X3 : XR w3 (fun b => w2.heap.size ≤ b ∧ b < w3.heap.size) zeroX (.agg #[.string ⟨#[]⟩, .string ⟨#[]⟩, .slice none 0 0, .slice none 0 0, .string ⟨#[]⟩]) := xr_zero _ _
      have hKw : w2.heap.size ≤ w3.heap.size := o3.size
      obtain ⟨Kb, hKb⟩ : ∃ K, w3.heap.size = K := ⟨_, rfl⟩
      have hN2 := HN2.out.blk.lt
      have hBw2 : B ≤ w2.heap.size := by omega
      have H3 := HN2.out.ox o3 hXB
      obtain ⟨kA, kc, hkv⟩ := H3.kvf
      obtain ⟨K, hK⟩ : ∃ K, (allX ks t).length = K := ⟨_, rfl⟩
      have hk : K ≤ 500000 := by have h1 := HAL.out; have h2 := HPOT.out; omega
      rw [hK] at hkv
      have HK := hid hK
      subst hkv
      have HKV : Hid (∀ b, (Value.slice kA K kc).ownBlock = some b → b < w2.heap.size) := hid (fun b hb => (World.ownsRow.lt HN2.out.kids b hb).2)
      have bk := below_alloc8 w3 (.cells #[.string ⟨#[]⟩, .string ⟨#[]⟩, .slice none 0 0, .slice none 0 0, .string ⟨#[]⟩] TNo)
      have hKB := Blk.new (.cells #[.string ⟨#[]⟩, .string ⟨#[]⟩, .slice none 0 0, .slice none 0 0, .string ⟨#[]⟩] TNo) w3
      rw [hKb] at hKB
      have hNK : N < Kb := by omega
      have HH := hid (H3.below bk)
      have HB3 := hid hKB
      have X3b := hid (X3.below bk)
      have HO4x := hid (OX.trans (OX.trans HO2.out o3) (OX.of bk))
      have hsz4 : (w3.alloc (.cells #[.string ⟨#[]⟩, .string ⟨#[]⟩, .slice none 0 0, .slice none 0 0, .string ⟨#[]⟩] TNo)).heap.size = Kb + 1 := by simp [hKb]
      clear H3 bk hKB X3 hK
      go_wp2
      obtain ⟨w4, hw4⟩ : ∃ W, w3.alloc (.cells #[.string ⟨#[]⟩, .string ⟨#[]⟩, .slice none 0 0, .slice none 0 0, .string ⟨#[]⟩] TNo) = W := ⟨_, rfl⟩
      rw [hw4] at HH HB3 X3b HO4x hsz4
      try rw [hw4]
      clear hw4
      obtain ⟨N0, hN0⟩ : ∃ N, w4.heap.size = N := ⟨_, rfl⟩
      have bd : Below w4.heap.size w4 w4.drew := below_drewN (Below.refl _ _) 1
      have BK0 := (Off.of_below bd).blk HB3.out (fun h => h)
      have HBK : Hid (∀ W, Blk Kb (.cells #[.string ⟨#[]⟩, .string ⟨#[]⟩, .slice none 0 0, .slice none 0 0, .string ⟨#[]⟩] TNo) W → (fun W => W.cell? ⟨Kb, 0, none⟩ = some (.string ⟨#[]⟩) ∧ W.cell? ⟨Kb, 1, none⟩ = some (.string ⟨#[]⟩) ∧ W.cell? ⟨Kb, 2, none⟩ = some (.slice none 0 0) ∧ W.cell? ⟨Kb, 3, none⟩ = some (.slice none 0 0) ∧ W.cell? ⟨Kb, 4, none⟩ = some (.string ⟨#[]⟩)) W) := hid (fun W h => ⟨h.cell 0, h.cell 1, h.cell 2, h.cell 3, h.cell 4⟩)
      refine wp_region_held_drew (S := fun W => W.cell? ⟨Kb, 0, none⟩ = some (.string ⟨#[]⟩) ∧ W.cell? ⟨Kb, 1, none⟩ = some (.string ⟨#[]⟩) ∧ W.cell? ⟨Kb, 2, none⟩ = some (.slice none 0 0) ∧ W.cell? ⟨Kb, 3, none⟩ = some (.slice none 0 0) ∧ W.cell? ⟨Kb, 4, none⟩ = some (.string ⟨#[]⟩)) (by kernel_rfl) (HBK.out _ BK0) (fun _ => ?_)
      have H0 := HH.out.below bd
      have s0 : w4.drew.heap.size = N0 := hN0
      have X0 : XR w4.drew (Tn B R N (.slice kA K kc) w4.drew) zeroX (.agg #[.string ⟨#[]⟩, .string ⟨#[]⟩, .slice none 0 0, .slice none 0 0, .string ⟨#[]⟩]) := XR.mono (fun b hb => ⟨Nat.le_trans hBw2 hb.1, by rw [s0, ← hN0, hsz4]; have := hb.2; omega, by have := hb.1; omega, by have := hb.1; omega, fun e => by have := HKV.out b e; have := hb.1; omega⟩) _ _ (X3b.out.below bd)
      obtain ⟨aA, ac, hav, AT0⟩ := H0.att
      have HAV := hid hav
      clear hav
      have HD := hid bd
      clear bd
      generalize w4.drew = w0 at *
      refine wpAnyH_take (i := 0) (v := .pointer (some ⟨N, 0, none⟩)) rfl (by kernel_rfl) (by kernel_rfl) (by kernel_rfl) (fun _ _ _ h => h) (Or.inl ⟨by rfl, by intro w hSw; clear hSw; go_simp⟩) (HBK.out _ BK0) ?_
      change wpAnyH _ _ _ _ _ _ _ (Act.put _ (some 48) _) _
      try simp only [Act.put, zA8, zB8, zC8]
      refine wpAnyH_take (i := 1) (v := .pointer (some ⟨N, 0, none⟩)) rfl (by kernel_rfl) (by kernel_rfl) (by kernel_rfl) (fun _ _ _ h => h) (Or.inl ⟨by rfl, by intro w hSw; clear hSw; go_simp⟩) (HBK.out _ BK0) ?_
      change wpAnyH _ _ _ _ _ _ _ (Act.put _ (some 49) _) _
      try simp only [Act.put, zA8, zB8, zC8]
      refine wpAnyH_take (i := 2) (v := .pointer (some ⟨N, 3, none⟩)) rfl (by kernel_rfl) (by kernel_rfl) (by kernel_rfl) (fun _ _ _ h => h) (Or.inl ⟨by rfl, by intro w hSw; clear hSw; go_simp⟩) (HBK.out _ BK0) ?_
      change wpAnyH _ _ _ _ _ _ _ (Act.put _ (some 50) _) _
      try simp only [Act.put, zA8, zB8, zC8]
      refine wpAnyH_take (i := 4) (v := .agg #[.string ⟨#[]⟩, .string ⟨#[]⟩, .slice none 0 0, .slice none 0 0, .string ⟨#[]⟩]) rfl (by kernel_rfl) (by kernel_rfl) (by kernel_rfl) (fun _ _ _ h => h) (Or.inl ⟨by rfl, by intro w hSw; (try dsimp only at hSw); go_simp⟩) (HBK.out _ BK0) ?_
      change wpAnyH _ _ _ _ _ _ _ (Act.put _ (some 52) _) _
      try simp only [Act.put, zA8, zB8, zC8]
      refine wpAnyH_ready (rs := [3, 6]) (by kernel_rfl) (by simp) ?_
      refine AllReadyH.cons (o := { dst := some 51, op := .load 25 (.tmp 50), type := _, pos := _, after := _, guard := none }) rfl (fun K0 hK => ?_) ?_
      ·-- the kids are read first
       have c3 : w0.cell? ⟨N, 3, none⟩ = some (.slice kA K kc) := H0.blk.cell 3
       go_simp
       refine hK.out _ _ (HBK.out _ BK0) (fun _ => ?_)
       clear hK K0 c3
       try simp only [Act.put, zA8, zB8, zC8]
       refine wpAnyH_take (i := 5) (v := .int .i64 (K : Int)) rfl (by kernel_rfl) (by kernel_rfl) (by kernel_rfl) (fun _ _ _ h => h) (Or.inl ⟨by rfl, by intro w hSw; clear hSw; go_simp⟩) (HBK.out _ BK0) ?_
       change wpAnyH _ _ _ _ _ _ _ (Act.put _ (some 53) _) _
       try simp only [Act.put, zA8, zB8, zC8]
       refine wpAnyH_ready (rs := [6]) (by kernel_rfl) (by simp) ?_
       refine AllReadyH.cons (o := { dst := some 54, op := .buildSlice 25 1 #[(0, .const (.agg #[.string ⟨#[]⟩, .string ⟨#[]⟩, .slice none 0 0, .slice none 0 0, .string ⟨#[]⟩]))], type := _, pos := _, after := _, guard := none }) rfl (fun K0 hK => ?_) AllReadyH.nil
       go_simp
       have hb1 := below_alloc8 w0 ZN
       have H1 := H0.below hb1
       have X1 := X0.below hb1
       have Z1 : Blk N0 ZN (w0.alloc ZN) := by have := Blk.new ZN w0; rwa [s0] at this
       have s1 : (w0.alloc ZN).heap.size = N0 + 1 := by simp [s0]
       have BW1 := hid hb1
       have BK1 := (Off.of_below hb1).blk BK0 (fun h => h)
       refine hK.out _ _ (HBK.out _ BK1) (fun _ => ?_)
       clear hK K0 hb1
       try simp only [Act.put, zA8, zB8, zC8]
       generalize w0.alloc ZN = w1 at *
       obtain ⟨i0, hi, hz0, hz1, hz2⟩ := info_parts Tryz.info8N
       refine wpAnyH_ready (rs := [7]) (by kernel_rfl) (by simp) ?_
       refine AllReadyH.cons (o := { dst := some 55, op := .call { callee := .builtin .append, args := #[.tmp 51, .tmp 54], argTypes := #[25, 25] }, type := _, pos := _, after := _, guard := none }) rfl (fun K' hK' => ?_) AllReadyH.nil
       refine step_append_lies w1 rfl (.tmp 51) (.tmp 54) 25 rfl (N + 1) TNo i0 _ 5 96 Tryz.underlying25 hi hz0 hz1 hz2 rfl (by decide) (.slice kA K kc) K cs rfl (by have := H1.kids; rw [HK.out] at this; exact this) ⟨N0, 0, none⟩ 1 1 zN5 rfl rfl (World.news_of_block Z1) (fun u hu => by simp at hu; rcases hu with rfl | rfl | rfl | rfl | rfl <;> rfl) (by decide) (by unfold maxLen; omega) (by omega) (by have := H0.blk.lt; omega) (N0 + 1) s1 ?_
       intro g cap w2 L2 gr2 at2 lt2
       have o2 := Off.of_grown gr2
       have hat : (Value.slice kA K kc).ownBlock = some g ∨ w0.heap.size ≤ g := at2.imp id (fun h => by omega)
       have hgN : N < g := by
        rcases hat with h | h
        ·exact (World.ownsRow.lt H0.kids g h).1
        ·have := H0.blk.lt; omega
       have hgT : ∀ b, Tn B R N (.slice kA K kc) w0 b → b ≠ g := fun b hb e => by
        subst e
        rcases hat with h | h
        ·exact hb.2.2.2.2 h
        ·have := hb.2.1; omega
       have hgK : Kb ≠ g := fun e => by
        rcases hat with h | h
        ·have := HKV.out g h; omega
        ·have := BK0.lt; omega
       have BK2 := o2.blk BK1 (fun e => by have := HKV.out Kb e; omega)
       refine hK'.out _ _ (HBK.out _ BK2) (fun _ => ?_)
       clear hK' K'
       try simp only [Act.put, zA8, zB8, zC8]
       have B2 := o2.blk H1.blk (fun e => by have := (World.ownsRow.lt H0.kids N e).1; omega)
       have hT1 : ∀ b, Tn B R N (.slice kA K kc) w1 b ∧ b < w0.heap.size → Tn B R N (.slice kA K kc) w0 b := fun b h => ⟨h.1.1, h.2, h.1.2.2⟩
       have R2 : XRs w2 (Tn B R N (.slice kA K kc) w0) (allX ks t) cs := XRs.off o2 (fun b hb e => hb.2.2.2.2 e) _ _ (XRs.off (Off.of_below (BW1.out)) (fun _ _ h => h) _ _ H0.read)
       have X2 : XR w2 (Tn B R N (.slice kA K kc) w0) zeroX (.agg #[.string ⟨#[]⟩, .string ⟨#[]⟩, .slice none 0 0, .slice none 0 0, .string ⟨#[]⟩]) := XR.off o2 (fun b hb e => hb.2.2.2.2 e) _ _ (X0.below BW1.out)
       have A2 : RC w2 (Tn B R N (.slice kA K kc) w0) aA (cA al) := (AT0.below BW1.out).off o2 (fun b hb e => hb.2.2.2.2 e)
       have O2 : Off (fun b => N ≤ b) w0 w2 := ((Off.of_below BW1.out).mono (fun _ h => h.elim)).trans o2 (fun b h => .inl (by have := (World.ownsRow.lt H0.kids b h).1; omega))
       clear at2 gr2 o2 Z1 s1 hT1
       have hg1 : (0 : Int) ≤ (K : Int) ∧ (K : Int) < ((K + 1 : Nat) : Int) := by omega
       have hg2 : (0 : Int) ≤ (K : Int) ∧ (K : Int) < (K : Int) + 1 := by omega
       refine wpAnyH_take (i := 8) (v := .pointer (some ⟨g, K * 5, none⟩)) rfl (by kernel_rfl) (by kernel_rfl) (by kernel_rfl) (fun _ _ _ h => h) (Or.inl ⟨by rfl, by intro w hSw; clear hSw; go_simp⟩) (HBK.out _ BK2) ?_
       change wpAnyH _ _ _ _ _ _ _ (Act.put _ (some 56) _) _
       try simp only [Act.put, zA8, zB8, zC8]
       refine wpAnyH_take (i := 10) (v := .pointer (some ⟨N, 0, none⟩)) rfl (by kernel_rfl) (by kernel_rfl) (by kernel_rfl) (fun _ _ _ h => h) (Or.inl ⟨by rfl, by intro w hSw; clear hSw; go_simp⟩) (HBK.out _ BK2) ?_
       change wpAnyH _ _ _ _ _ _ _ (Act.put _ (some 57) _) _
       try simp only [Act.put, zA8, zB8, zC8]
       refine wpAnyH_take (i := 11) (v := .pointer (some ⟨N, 3, none⟩)) rfl (by kernel_rfl) (by kernel_rfl) (by kernel_rfl) (fun _ _ _ h => h) (Or.inl ⟨by rfl, by intro w hSw; clear hSw; go_simp⟩) (HBK.out _ BK2) ?_
       change wpAnyH _ _ _ _ _ _ _ (Act.put _ (some 58) _) _
       try simp only [Act.put, zA8, zB8, zC8]
       refine wpAnyH_ready (rs := [9, 12]) (by kernel_rfl) (by simp) ?_
       refine AllReadyH.cons (o := { dst := none, op := .store TNo (.tmp 56) (.tmp 52), type := _, pos := _, after := _, guard := none }) rfl (fun K0 hK => ?_) ?_
       ·-- the element first
        refine step_st5 rfl 56 52 rfl rfl w2 (b := g) (k := K * 5) (x0 := .string ⟨#[]⟩) (x1 := .string ⟨#[]⟩) (x2 := .slice none 0 0) (x3 := .slice none 0 0) (x4 := .string ⟨#[]⟩) rfl rfl (own5_there L2) (all5 rfl rfl rfl rfl rfl) ?_
        have o3 := off_sets8 g [.string ⟨#[]⟩, .string ⟨#[]⟩, .slice none 0 0, .slice none 0 0, .string ⟨#[]⟩] (K * 5) w2
        have L3 := own5_set (x0 := .string ⟨#[]⟩) (x1 := .string ⟨#[]⟩) (x2 := .slice none 0 0) (x3 := .slice none 0 0) (x4 := .string ⟨#[]⟩) (by have := H0.kids.1; rw [HK.out] at this; exact this) L2
        have B3 := o3.blk B2 (fun e => by omega)
        have R3 := XRs.off o3 (fun b hb e => hgT b hb e) _ _ R2
        have X3 := XR.off o3 (fun b hb e => hgT b hb e) _ _ X2
        have A3 := A2.off o3 (fun b hb e => hgT b hb e)
        have O3 := O2.trans o3 (fun b h => .inl (by omega))
        have BK3 := o3.blk BK2 (fun e => hgK e)
        refine hK.out _ _ (HBK.out _ BK3) (fun _ => ?_)
        clear hK
        generalize w2.setCells g (K * 5) [.string ⟨#[]⟩, .string ⟨#[]⟩, .slice none 0 0, .slice none 0 0, .string ⟨#[]⟩] = w3 at *
        refine wpAnyH_ready (rs := [12]) (by kernel_rfl) (by simp) ?_
        refine AllReadyH.cons (o := { dst := none, op := .store 25 (.tmp 58) (.tmp 55), type := _, pos := _, after := _, guard := none }) rfl (fun K0 hK => ?_) AllReadyH.nil
        refine step_stS rfl 58 55 rfl rfl w3 (b := N) (k := 3) (v := .slice (some ⟨g, 0, none⟩) (K + 1) cap) rfl rfl (B3.cell 3) (B3.free 3) ⟨_, _, _, rfl⟩ ?_
        have o4 := off_set8 w3 N 3 (.slice (some ⟨g, 0, none⟩) (K + 1) cap)
        have L4 := own_off L3 o4 (fun b hb e => by have : g = b := Option.some.inj hb; omega)
        have B4 : Blk N (.cells #[sV sp, sV nm, av, .slice (some ⟨g, 0, none⟩) (K + 1) cap, .string ⟨#[]⟩] TNo) (w3.setCell ⟨N, 3, none⟩ (.slice (some ⟨g, 0, none⟩) (K + 1) cap)) := by have := B3.set 3 (.slice (some ⟨g, 0, none⟩) (K + 1) cap); simpa using this
        have R4 := XRs.off o4 (fun b hb e => hb.2.2.2.1 e) _ _ R3
        have X4 := XR.off o4 (fun b hb e => hb.2.2.2.1 e) _ _ X3
        have A4 := A3.off o4 (fun b hb e => hb.2.2.2.1 e)
        have O4 := O3.trans o4 (fun b h => .inl (by omega))
        have BK4 := o4.blk BK3 (fun e => by omega)
        refine hK.out _ _ (HBK.out _ BK4) (fun _ => ?_)
        clear hK
        generalize w3.setCell ⟨N, 3, none⟩ (.slice (some ⟨g, 0, none⟩) (K + 1) cap) = w4 at *
        refine wpAnyH_done (by kernel_rfl) ?_ _
        have HN4 : Hid (NSt B R N sp nm al ((allX ks t) ++ [zeroX]) av (.slice (some ⟨g, 0, none⟩) (K + 1) cap) (cs ++ [.string ⟨#[]⟩, .string ⟨#[]⟩, .slice none 0 0, .slice none 0 0, .string ⟨#[]⟩]) w4) := hid (H0.pushed HK.out B4 L4 (XRs.snoc X4 (allX ks t) cs R4) ⟨aA, ac, HAV.out, A4⟩ hat O4.size)
        have HO4 := hid O4
        clear L2 B2 R2 X2 A2 O2 L3 B3 R3 X3 A3 O3 L4 B4 R4 X4 A4 O4 o3 o4
        clear BK2 BK3 BK4
        have HOE := hid (PF.trans (OX.pf (N := N) (OX.trans HO4x.out (OX.of HD.out))) (PF.of HO4.out))
        go_wp2
        go_ret
        exact PcO.bad HF.out HZ.out HOE.out
       refine AllReadyH.cons (o := { dst := none, op := .store 25 (.tmp 58) (.tmp 55), type := _, pos := _, after := _, guard := none }) rfl (fun K0 hK => ?_) AllReadyH.nil
       refine step_stS rfl 58 55 rfl rfl w2 (b := N) (k := 3) (v := .slice (some ⟨g, 0, none⟩) (K + 1) cap) rfl rfl (B2.cell 3) (B2.free 3) ⟨_, _, _, rfl⟩ ?_
       have o3 := off_set8 w2 N 3 (.slice (some ⟨g, 0, none⟩) (K + 1) cap)
       have L3 := own_off L2 o3 (fun b hb e => by have : g = b := Option.some.inj hb; omega)
       have B3 : Blk N (.cells #[sV sp, sV nm, av, .slice (some ⟨g, 0, none⟩) (K + 1) cap, .string ⟨#[]⟩] TNo) (w2.setCell ⟨N, 3, none⟩ (.slice (some ⟨g, 0, none⟩) (K + 1) cap)) := by have := B2.set 3 (.slice (some ⟨g, 0, none⟩) (K + 1) cap); simpa using this
       have R3 := XRs.off o3 (fun b hb e => hb.2.2.2.1 e) _ _ R2
       have X3 := XR.off o3 (fun b hb e => hb.2.2.2.1 e) _ _ X2
       have A3 := A2.off o3 (fun b hb e => hb.2.2.2.1 e)
       have O3 := O2.trans o3 (fun b h => .inl (by omega))
       have BK3 := o3.blk BK2 (fun e => by omega)
       refine hK.out _ _ (HBK.out _ BK3) (fun _ => ?_)
       clear hK
       generalize w2.setCell ⟨N, 3, none⟩ (.slice (some ⟨g, 0, none⟩) (K + 1) cap) = w3 at *
       refine wpAnyH_ready (rs := [9]) (by kernel_rfl) (by simp) ?_
       refine AllReadyH.cons (o := { dst := none, op := .store TNo (.tmp 56) (.tmp 52), type := _, pos := _, after := _, guard := none }) rfl (fun K0 hK => ?_) AllReadyH.nil
       refine step_st5 rfl 56 52 rfl rfl w3 (b := g) (k := K * 5) (x0 := .string ⟨#[]⟩) (x1 := .string ⟨#[]⟩) (x2 := .slice none 0 0) (x3 := .slice none 0 0) (x4 := .string ⟨#[]⟩) rfl rfl (own5_there L3) (all5 rfl rfl rfl rfl rfl) ?_
       have o4 := off_sets8 g [.string ⟨#[]⟩, .string ⟨#[]⟩, .slice none 0 0, .slice none 0 0, .string ⟨#[]⟩] (K * 5) w3
       have L4 := own5_set (x0 := .string ⟨#[]⟩) (x1 := .string ⟨#[]⟩) (x2 := .slice none 0 0) (x3 := .slice none 0 0) (x4 := .string ⟨#[]⟩) (by have := H0.kids.1; rw [HK.out] at this; exact this) L3
       have B4 := o4.blk B3 (fun e => by omega)
       have R4 := XRs.off o4 (fun b hb e => hgT b hb e) _ _ R3
       have X4 := XR.off o4 (fun b hb e => hgT b hb e) _ _ X3
       have A4 := A3.off o4 (fun b hb e => hgT b hb e)
       have O4 := O3.trans o4 (fun b h => .inl (by omega))
       have BK4 := o4.blk BK3 (fun e => hgK e)
       refine hK.out _ _ (HBK.out _ BK4) (fun _ => ?_)
       clear hK
       generalize w3.setCells g (K * 5) [.string ⟨#[]⟩, .string ⟨#[]⟩, .slice none 0 0, .slice none 0 0, .string ⟨#[]⟩] = w4 at *
       refine wpAnyH_done (by kernel_rfl) ?_ _
       have HN4 : Hid (NSt B R N sp nm al ((allX ks t) ++ [zeroX]) av (.slice (some ⟨g, 0, none⟩) (K + 1) cap) (cs ++ [.string ⟨#[]⟩, .string ⟨#[]⟩, .slice none 0 0, .slice none 0 0, .string ⟨#[]⟩]) w4) := hid (H0.pushed HK.out B4 L4 (XRs.snoc X4 (allX ks t) cs R4) ⟨aA, ac, HAV.out, A4⟩ hat O4.size)
       have HO4 := hid O4
       clear L2 B2 R2 X2 A2 O2 L3 B3 R3 X3 A3 O3 L4 B4 R4 X4 A4 O4 o3 o4
       clear BK2 BK3 BK4
       have HOE := hid (PF.trans (OX.pf (N := N) (OX.trans HO4x.out (OX.of HD.out))) (PF.of HO4.out))
       go_wp2
       go_ret
       exact PcO.bad HF.out HZ.out HOE.out
      refine AllReadyH.cons (o := { dst := some 54, op := .buildSlice 25 1 #[(0, .const (.agg #[.string ⟨#[]⟩, .string ⟨#[]⟩, .slice none 0 0, .slice none 0 0, .string ⟨#[]⟩]))], type := _, pos := _, after := _, guard := none }) rfl (fun K0 hK => ?_) AllReadyH.nil
      go_simp
      have hb1 := below_alloc8 w0 ZN
      have H1 := H0.below hb1
      have X1 := X0.below hb1
      have Z1 : Blk N0 ZN (w0.alloc ZN) := by have := Blk.new ZN w0; rwa [s0] at this
      have s1 : (w0.alloc ZN).heap.size = N0 + 1 := by simp [s0]
      have BW1 := hid hb1
      have BK1 := (Off.of_below hb1).blk BK0 (fun h => h)
      refine hK.out _ _ (HBK.out _ BK1) (fun _ => ?_)
      clear hK K0 hb1
      try simp only [Act.put, zA8, zB8, zC8]
      generalize w0.alloc ZN = w1 at *
      refine wpAnyH_ready (rs := [3]) (by kernel_rfl) (by simp) ?_
      refine AllReadyH.cons (o := { dst := some 51, op := .load 25 (.tmp 50), type := _, pos := _, after := _, guard := none }) rfl (fun K0 hK => ?_) AllReadyH.nil
      have c3 : w1.cell? ⟨N, 3, none⟩ = some (.slice kA K kc) := H1.blk.cell 3
      go_simp
      refine hK.out _ _ (HBK.out _ BK1) (fun _ => ?_)
      clear hK K0 c3
      try simp only [Act.put, zA8, zB8, zC8]
      refine wpAnyH_take (i := 5) (v := .int .i64 (K : Int)) rfl (by kernel_rfl) (by kernel_rfl) (by kernel_rfl) (fun _ _ _ h => h) (Or.inl ⟨by rfl, by intro w hSw; clear hSw; go_simp⟩) (HBK.out _ BK1) ?_
      change wpAnyH _ _ _ _ _ _ _ (Act.put _ (some 53) _) _
      try simp only [Act.put, zA8, zB8, zC8]
      obtain ⟨i0, hi, hz0, hz1, hz2⟩ := info_parts Tryz.info8N
      refine wpAnyH_ready (rs := [7]) (by kernel_rfl) (by simp) ?_
      refine AllReadyH.cons (o := { dst := some 55, op := .call { callee := .builtin .append, args := #[.tmp 51, .tmp 54], argTypes := #[25, 25] }, type := _, pos := _, after := _, guard := none }) rfl (fun K' hK' => ?_) AllReadyH.nil
      refine step_append_lies w1 rfl (.tmp 51) (.tmp 54) 25 rfl (N + 1) TNo i0 _ 5 96 Tryz.underlying25 hi hz0 hz1 hz2 rfl (by decide) (.slice kA K kc) K cs rfl (by have := H1.kids; rw [HK.out] at this; exact this) ⟨N0, 0, none⟩ 1 1 zN5 rfl rfl (World.news_of_block Z1) (fun u hu => by simp at hu; rcases hu with rfl | rfl | rfl | rfl | rfl <;> rfl) (by decide) (by unfold maxLen; omega) (by omega) (by have := H0.blk.lt; omega) (N0 + 1) s1 ?_
      intro g cap w2 L2 gr2 at2 lt2
      have o2 := Off.of_grown gr2
      have hat : (Value.slice kA K kc).ownBlock = some g ∨ w0.heap.size ≤ g := at2.imp id (fun h => by omega)
      have hgN : N < g := by
       rcases hat with h | h
       ·exact (World.ownsRow.lt H0.kids g h).1
       ·have := H0.blk.lt; omega
      have hgT : ∀ b, Tn B R N (.slice kA K kc) w0 b → b ≠ g := fun b hb e => by
       subst e
       rcases hat with h | h
       ·exact hb.2.2.2.2 h
       ·have := hb.2.1; omega
      have hgK : Kb ≠ g := fun e => by
       rcases hat with h | h
       ·have := HKV.out g h; omega
       ·have := BK0.lt; omega
      have BK2 := o2.blk BK1 (fun e => by have := HKV.out Kb e; omega)
      refine hK'.out _ _ (HBK.out _ BK2) (fun _ => ?_)
      clear hK' K'
      try simp only [Act.put, zA8, zB8, zC8]
      have B2 := o2.blk H1.blk (fun e => by have := (World.ownsRow.lt H0.kids N e).1; omega)
      have hT1 : ∀ b, Tn B R N (.slice kA K kc) w1 b ∧ b < w0.heap.size → Tn B R N (.slice kA K kc) w0 b := fun b h => ⟨h.1.1, h.2, h.1.2.2⟩
      have R2 : XRs w2 (Tn B R N (.slice kA K kc) w0) (allX ks t) cs := XRs.off o2 (fun b hb e => hb.2.2.2.2 e) _ _ (XRs.off (Off.of_below (BW1.out)) (fun _ _ h => h) _ _ H0.read)
      have X2 : XR w2 (Tn B R N (.slice kA K kc) w0) zeroX (.agg #[.string ⟨#[]⟩, .string ⟨#[]⟩, .slice none 0 0, .slice none 0 0, .string ⟨#[]⟩]) := XR.off o2 (fun b hb e => hb.2.2.2.2 e) _ _ (X0.below BW1.out)
      have A2 : RC w2 (Tn B R N (.slice kA K kc) w0) aA (cA al) := (AT0.below BW1.out).off o2 (fun b hb e => hb.2.2.2.2 e)
      have O2 : Off (fun b => N ≤ b) w0 w2 := ((Off.of_below BW1.out).mono (fun _ h => h.elim)).trans o2 (fun b h => .inl (by have := (World.ownsRow.lt H0.kids b h).1; omega))
      clear at2 gr2 o2 Z1 s1 hT1
      have hg1 : (0 : Int) ≤ (K : Int) ∧ (K : Int) < ((K + 1 : Nat) : Int) := by omega
      have hg2 : (0 : Int) ≤ (K : Int) ∧ (K : Int) < (K : Int) + 1 := by omega
      refine wpAnyH_take (i := 8) (v := .pointer (some ⟨g, K * 5, none⟩)) rfl (by kernel_rfl) (by kernel_rfl) (by kernel_rfl) (fun _ _ _ h => h) (Or.inl ⟨by rfl, by intro w hSw; clear hSw; go_simp⟩) (HBK.out _ BK2) ?_
      change wpAnyH _ _ _ _ _ _ _ (Act.put _ (some 56) _) _
      try simp only [Act.put, zA8, zB8, zC8]
      refine wpAnyH_take (i := 10) (v := .pointer (some ⟨N, 0, none⟩)) rfl (by kernel_rfl) (by kernel_rfl) (by kernel_rfl) (fun _ _ _ h => h) (Or.inl ⟨by rfl, by intro w hSw; clear hSw; go_simp⟩) (HBK.out _ BK2) ?_
      change wpAnyH _ _ _ _ _ _ _ (Act.put _ (some 57) _) _
      try simp only [Act.put, zA8, zB8, zC8]
      refine wpAnyH_take (i := 11) (v := .pointer (some ⟨N, 3, none⟩)) rfl (by kernel_rfl) (by kernel_rfl) (by kernel_rfl) (fun _ _ _ h => h) (Or.inl ⟨by rfl, by intro w hSw; clear hSw; go_simp⟩) (HBK.out _ BK2) ?_
      change wpAnyH _ _ _ _ _ _ _ (Act.put _ (some 58) _) _
      try simp only [Act.put, zA8, zB8, zC8]
      refine wpAnyH_ready (rs := [9, 12]) (by kernel_rfl) (by simp) ?_
      refine AllReadyH.cons (o := { dst := none, op := .store TNo (.tmp 56) (.tmp 52), type := _, pos := _, after := _, guard := none }) rfl (fun K0 hK => ?_) ?_
      ·-- the element first
       refine step_st5 rfl 56 52 rfl rfl w2 (b := g) (k := K * 5) (x0 := .string ⟨#[]⟩) (x1 := .string ⟨#[]⟩) (x2 := .slice none 0 0) (x3 := .slice none 0 0) (x4 := .string ⟨#[]⟩) rfl rfl (own5_there L2) (all5 rfl rfl rfl rfl rfl) ?_
       have o3 := off_sets8 g [.string ⟨#[]⟩, .string ⟨#[]⟩, .slice none 0 0, .slice none 0 0, .string ⟨#[]⟩] (K * 5) w2
       have L3 := own5_set (x0 := .string ⟨#[]⟩) (x1 := .string ⟨#[]⟩) (x2 := .slice none 0 0) (x3 := .slice none 0 0) (x4 := .string ⟨#[]⟩) (by have := H0.kids.1; rw [HK.out] at this; exact this) L2
       have B3 := o3.blk B2 (fun e => by omega)
       have R3 := XRs.off o3 (fun b hb e => hgT b hb e) _ _ R2
       have X3 := XR.off o3 (fun b hb e => hgT b hb e) _ _ X2
       have A3 := A2.off o3 (fun b hb e => hgT b hb e)
       have O3 := O2.trans o3 (fun b h => .inl (by omega))
       have BK3 := o3.blk BK2 (fun e => hgK e)
       refine hK.out _ _ (HBK.out _ BK3) (fun _ => ?_)
       clear hK
       generalize w2.setCells g (K * 5) [.string ⟨#[]⟩, .string ⟨#[]⟩, .slice none 0 0, .slice none 0 0, .string ⟨#[]⟩] = w3 at *
       refine wpAnyH_ready (rs := [12]) (by kernel_rfl) (by simp) ?_
       refine AllReadyH.cons (o := { dst := none, op := .store 25 (.tmp 58) (.tmp 55), type := _, pos := _, after := _, guard := none }) rfl (fun K0 hK => ?_) AllReadyH.nil
       refine step_stS rfl 58 55 rfl rfl w3 (b := N) (k := 3) (v := .slice (some ⟨g, 0, none⟩) (K + 1) cap) rfl rfl (B3.cell 3) (B3.free 3) ⟨_, _, _, rfl⟩ ?_
       have o4 := off_set8 w3 N 3 (.slice (some ⟨g, 0, none⟩) (K + 1) cap)
       have L4 := own_off L3 o4 (fun b hb e => by have : g = b := Option.some.inj hb; omega)
       have B4 : Blk N (.cells #[sV sp, sV nm, av, .slice (some ⟨g, 0, none⟩) (K + 1) cap, .string ⟨#[]⟩] TNo) (w3.setCell ⟨N, 3, none⟩ (.slice (some ⟨g, 0, none⟩) (K + 1) cap)) := by have := B3.set 3 (.slice (some ⟨g, 0, none⟩) (K + 1) cap); simpa using this
       have R4 := XRs.off o4 (fun b hb e => hb.2.2.2.1 e) _ _ R3
       have X4 := XR.off o4 (fun b hb e => hb.2.2.2.1 e) _ _ X3
       have A4 := A3.off o4 (fun b hb e => hb.2.2.2.1 e)
       have O4 := O3.trans o4 (fun b h => .inl (by omega))
       have BK4 := o4.blk BK3 (fun e => by omega)
       refine hK.out _ _ (HBK.out _ BK4) (fun _ => ?_)
       clear hK
       generalize w3.setCell ⟨N, 3, none⟩ (.slice (some ⟨g, 0, none⟩) (K + 1) cap) = w4 at *
       refine wpAnyH_done (by kernel_rfl) ?_ _
       have HN4 : Hid (NSt B R N sp nm al ((allX ks t) ++ [zeroX]) av (.slice (some ⟨g, 0, none⟩) (K + 1) cap) (cs ++ [.string ⟨#[]⟩, .string ⟨#[]⟩, .slice none 0 0, .slice none 0 0, .string ⟨#[]⟩]) w4) := hid (H0.pushed HK.out B4 L4 (XRs.snoc X4 (allX ks t) cs R4) ⟨aA, ac, HAV.out, A4⟩ hat O4.size)
       have HO4 := hid O4
       clear L2 B2 R2 X2 A2 O2 L3 B3 R3 X3 A3 O3 L4 B4 R4 X4 A4 O4 o3 o4
       clear BK2 BK3 BK4
       have HOE := hid (PF.trans (OX.pf (N := N) (OX.trans HO4x.out (OX.of HD.out))) (PF.of HO4.out))
       go_wp2
       go_ret
       exact PcO.bad HF.out HZ.out HOE.out
      refine AllReadyH.cons (o := { dst := none, op := .store 25 (.tmp 58) (.tmp 55), type := _, pos := _, after := _, guard := none }) rfl (fun K0 hK => ?_) AllReadyH.nil
      refine step_stS rfl 58 55 rfl rfl w2 (b := N) (k := 3) (v := .slice (some ⟨g, 0, none⟩) (K + 1) cap) rfl rfl (B2.cell 3) (B2.free 3) ⟨_, _, _, rfl⟩ ?_
      have o3 := off_set8 w2 N 3 (.slice (some ⟨g, 0, none⟩) (K + 1) cap)
      have L3 := own_off L2 o3 (fun b hb e => by have : g = b := Option.some.inj hb; omega)
      have B3 : Blk N (.cells #[sV sp, sV nm, av, .slice (some ⟨g, 0, none⟩) (K + 1) cap, .string ⟨#[]⟩] TNo) (w2.setCell ⟨N, 3, none⟩ (.slice (some ⟨g, 0, none⟩) (K + 1) cap)) := by have := B2.set 3 (.slice (some ⟨g, 0, none⟩) (K + 1) cap); simpa using this
      have R3 := XRs.off o3 (fun b hb e => hb.2.2.2.1 e) _ _ R2
      have X3 := XR.off o3 (fun b hb e => hb.2.2.2.1 e) _ _ X2
      have A3 := A2.off o3 (fun b hb e => hb.2.2.2.1 e)
      have O3 := O2.trans o3 (fun b h => .inl (by omega))
      have BK3 := o3.blk BK2 (fun e => by omega)
      refine hK.out _ _ (HBK.out _ BK3) (fun _ => ?_)
      clear hK
      generalize w2.setCell ⟨N, 3, none⟩ (.slice (some ⟨g, 0, none⟩) (K + 1) cap) = w3 at *
      refine wpAnyH_ready (rs := [9]) (by kernel_rfl) (by simp) ?_
      refine AllReadyH.cons (o := { dst := none, op := .store TNo (.tmp 56) (.tmp 52), type := _, pos := _, after := _, guard := none }) rfl (fun K0 hK => ?_) AllReadyH.nil
      refine step_st5 rfl 56 52 rfl rfl w3 (b := g) (k := K * 5) (x0 := .string ⟨#[]⟩) (x1 := .string ⟨#[]⟩) (x2 := .slice none 0 0) (x3 := .slice none 0 0) (x4 := .string ⟨#[]⟩) rfl rfl (own5_there L3) (all5 rfl rfl rfl rfl rfl) ?_
      have o4 := off_sets8 g [.string ⟨#[]⟩, .string ⟨#[]⟩, .slice none 0 0, .slice none 0 0, .string ⟨#[]⟩] (K * 5) w3
      have L4 := own5_set (x0 := .string ⟨#[]⟩) (x1 := .string ⟨#[]⟩) (x2 := .slice none 0 0) (x3 := .slice none 0 0) (x4 := .string ⟨#[]⟩) (by have := H0.kids.1; rw [HK.out] at this; exact this) L3
      have B4 := o4.blk B3 (fun e => by omega)
      have R4 := XRs.off o4 (fun b hb e => hgT b hb e) _ _ R3
      have X4 := XR.off o4 (fun b hb e => hgT b hb e) _ _ X3
      have A4 := A3.off o4 (fun b hb e => hgT b hb e)
      have O4 := O3.trans o4 (fun b h => .inl (by omega))
      have BK4 := o4.blk BK3 (fun e => hgK e)
      refine hK.out _ _ (HBK.out _ BK4) (fun _ => ?_)
      clear hK
      generalize w3.setCells g (K * 5) [.string ⟨#[]⟩, .string ⟨#[]⟩, .slice none 0 0, .slice none 0 0, .string ⟨#[]⟩] = w4 at *
      refine wpAnyH_done (by kernel_rfl) ?_ _
      have HN4 : Hid (NSt B R N sp nm al ((allX ks t) ++ [zeroX]) av (.slice (some ⟨g, 0, none⟩) (K + 1) cap) (cs ++ [.string ⟨#[]⟩, .string ⟨#[]⟩, .slice none 0 0, .slice none 0 0, .string ⟨#[]⟩]) w4) := hid (H0.pushed HK.out B4 L4 (XRs.snoc X4 (allX ks t) cs R4) ⟨aA, ac, HAV.out, A4⟩ hat O4.size)
      have HO4 := hid O4
      clear L2 B2 R2 X2 A2 O2 L3 B3 R3 X3 A3 O3 L4 B4 R4 X4 A4 O4 o3 o4
      clear BK2 BK3 BK4
      have HOE := hid (PF.trans (OX.pf (N := N) (OX.trans HO4x.out (OX.of HD.out))) (PF.of HO4.out))
      go_wp2
      go_ret
      exact PcO.bad HF.out HZ.out HOE.out
     | ok y =>
      obtain ⟨v, r4⟩ := y
      have HF : Hid (o = .ok (r4, allX ks t ++ [v], [])) := hid (by rw [HQ3.out, h4])
      rw [h4] at HC4
      clear h4 HQ3
      go_enter Tryz.func59, Tryz.ntmps59
      go_wp2_with fail
      refine HC1.out.mono ?_
      rintro e w1 ⟨rfl, t1, o1⟩
      go_wp2_with fail
      refine (HC2.out _ t1).mono ?_
      rintro e w1b ⟨o1b, rfl, t1b⟩
      go_wp2_with fail
      refine (HC3.out _ t1b).mono ?_
      rintro e w2 ⟨rfl, t2, o2⟩
      have o02 := OX.trans (OX.trans o1 o1b) o2
      have hS2 := HSC.out.off o02 (fun b hb e => (HTS.out b hb).2 e)
      have t2' : TL X s r1 w2 := t2
      have HO2 := hid o02
      have HN2 := hid (HH0.out.ox o02 hXB)
      clear t1 o1 o1b t1b o2 o02 t2
      go_wp2_with fail
      refine (HC4.out _ t2' hS2).mono ?_
      clear t2' hS2
      rintro e w3 ⟨o3, x, rfl, hx, t3, hvn⟩
      have HVN := hid hvn
      have HT3 := hid t3
      have X3 : XR w3 (fun b => w2.heap.size ≤ b ∧ b < w3.heap.size) v x := hx
      obtain ⟨yA, yc, ykA, ykc, rfl⟩ := xr_one hx
      clear hx hvn t3
      obtain ⟨y0, hy0⟩ : ∃ s, v.space = s := ⟨_, rfl⟩
      obtain ⟨y1, hy1⟩ : ∃ s, v.name = s := ⟨_, rfl⟩
      obtain ⟨y4, hy4⟩ : ∃ s, v.text = s := ⟨_, rfl⟩
      obtain ⟨mA, hmA⟩ : ∃ s, v.attrs.length = s := ⟨_, rfl⟩
      obtain ⟨mK, hmK⟩ : ∃ s, v.kids.length = s := ⟨_, rfl⟩
      rw [hy0, hy1, hy4, hmA, hmK] at X3
      rw [hy0, hy1, hy4, hmA, hmK]
      clear hy0 hy1 hy4 hmA hmK
      have hKw : w2.heap.size ≤ w3.heap.size := o3.size
      obtain ⟨Kb, hKb⟩ : ∃ K, w3.heap.size = K := ⟨_, rfl⟩
      have hN2 := HN2.out.blk.lt
      have hBw2 : B ≤ w2.heap.size := by omega
      have H3 := HN2.out.ox o3 hXB
      obtain ⟨kA, kc, hkv⟩ := H3.kvf
      obtain ⟨K, hK⟩ : ∃ K, (allX ks t).length = K := ⟨_, rfl⟩
      have hk : K ≤ 500000 := by have h1 := HAL.out; have h2 := HPOT.out; omega
      rw [hK] at hkv
      have HK := hid hK
      subst hkv
      have HKV : Hid (∀ b, (Value.slice kA K kc).ownBlock = some b → b < w2.heap.size) := hid (fun b hb => (World.ownsRow.lt HN2.out.kids b hb).2)
      have bk := below_alloc8 w3 (.cells #[sV y0, sV y1, .slice yA mA yc, .slice ykA mK ykc, sV y4] TNo)
      have hKB := Blk.new (.cells #[sV y0, sV y1, .slice yA mA yc, .slice ykA mK ykc, sV y4] TNo) w3
      rw [hKb] at hKB
      have hNK : N < Kb := by omega
      have HH := hid (H3.below bk)
      have HB3 := hid hKB
      have X3b := hid (X3.below bk)
      have HO4x := hid (OX.trans (OX.trans HO2.out o3) (OX.of bk))
      have hsz4 : (w3.alloc (.cells #[sV y0, sV y1, .slice yA mA yc, .slice ykA mK ykc, sV y4] TNo)).heap.size = Kb + 1 := by simp [hKb]
      clear H3 bk hKB X3 hK
      go_wp2
      obtain ⟨w4, hw4⟩ : ∃ W, w3.alloc (.cells #[sV y0, sV y1, .slice yA mA yc, .slice ykA mK ykc, sV y4] TNo) = W := ⟨_, rfl⟩
      rw [hw4] at HH HB3 X3b HO4x hsz4
      try rw [hw4]
      have HT5 : Hid (TL X s r4 w4) := hid (by rw [← hw4]; exact HT3.out.below (below_alloc8 w3 _))
      clear hw4
      obtain ⟨N0, hN0⟩ : ∃ N, w4.heap.size = N := ⟨_, rfl⟩
      have bd : Below w4.heap.size w4 w4.drew := below_drewN (Below.refl _ _) 1
      have BK0 := (Off.of_below bd).blk HB3.out (fun h => h)
      have HBK : Hid (∀ W, Blk Kb (.cells #[sV y0, sV y1, .slice yA mA yc, .slice ykA mK ykc, sV y4] TNo) W → (fun W => W.cell? ⟨Kb, 0, none⟩ = some (sV y0) ∧ W.cell? ⟨Kb, 1, none⟩ = some (sV y1) ∧ W.cell? ⟨Kb, 2, none⟩ = some (.slice yA mA yc) ∧ W.cell? ⟨Kb, 3, none⟩ = some (.slice ykA mK ykc) ∧ W.cell? ⟨Kb, 4, none⟩ = some (sV y4)) W) := hid (fun W h => ⟨h.cell 0, h.cell 1, h.cell 2, h.cell 3, h.cell 4⟩)
      refine wp_region_held_drew (S := fun W => W.cell? ⟨Kb, 0, none⟩ = some (sV y0) ∧ W.cell? ⟨Kb, 1, none⟩ = some (sV y1) ∧ W.cell? ⟨Kb, 2, none⟩ = some (.slice yA mA yc) ∧ W.cell? ⟨Kb, 3, none⟩ = some (.slice ykA mK ykc) ∧ W.cell? ⟨Kb, 4, none⟩ = some (sV y4)) (by kernel_rfl) (HBK.out _ BK0) (fun _ => ?_)
      have H0 := HH.out.below bd
      have s0 : w4.drew.heap.size = N0 := hN0
      have X0 : XR w4.drew (Tn B R N (.slice kA K kc) w4.drew) v (.agg #[sV y0, sV y1, .slice yA mA yc, .slice ykA mK ykc, sV y4]) := XR.mono (fun b hb => ⟨Nat.le_trans hBw2 hb.1, by rw [s0, ← hN0, hsz4]; have := hb.2; omega, by have := hb.1; omega, by have := hb.1; omega, fun e => by have := HKV.out b e; have := hb.1; omega⟩) _ _ (X3b.out.below bd)
      obtain ⟨aA, ac, hav, AT0⟩ := H0.att
      have HAV := hid hav
      clear hav
      have HD := hid bd
      clear bd
      generalize w4.drew = w0 at *
      refine wpAnyH_take (i := 0) (v := .pointer (some ⟨N, 0, none⟩)) rfl (by kernel_rfl) (by kernel_rfl) (by kernel_rfl) (fun _ _ _ h => h) (Or.inl ⟨by rfl, by intro w hSw; clear hSw; go_simp⟩) (HBK.out _ BK0) ?_
      change wpAnyH _ _ _ _ _ _ _ (Act.put _ (some 48) _) _
      try simp only [Act.put, zA8, zB8, zC8]
      refine wpAnyH_take (i := 1) (v := .pointer (some ⟨N, 0, none⟩)) rfl (by kernel_rfl) (by kernel_rfl) (by kernel_rfl) (fun _ _ _ h => h) (Or.inl ⟨by rfl, by intro w hSw; clear hSw; go_simp⟩) (HBK.out _ BK0) ?_
      change wpAnyH _ _ _ _ _ _ _ (Act.put _ (some 49) _) _
      try simp only [Act.put, zA8, zB8, zC8]
      refine wpAnyH_take (i := 2) (v := .pointer (some ⟨N, 3, none⟩)) rfl (by kernel_rfl) (by kernel_rfl) (by kernel_rfl) (fun _ _ _ h => h) (Or.inl ⟨by rfl, by intro w hSw; clear hSw; go_simp⟩) (HBK.out _ BK0) ?_
      change wpAnyH _ _ _ _ _ _ _ (Act.put _ (some 50) _) _
      try simp only [Act.put, zA8, zB8, zC8]
      refine wpAnyH_take (i := 4) (v := .agg #[sV y0, sV y1, .slice yA mA yc, .slice ykA mK ykc, sV y4]) rfl (by kernel_rfl) (by kernel_rfl) (by kernel_rfl) (fun _ _ _ h => h) (Or.inl ⟨by rfl, by intro w hSw; (try dsimp only at hSw); go_simp⟩) (HBK.out _ BK0) ?_
      change wpAnyH _ _ _ _ _ _ _ (Act.put _ (some 52) _) _
      try simp only [Act.put, zA8, zB8, zC8]
      refine wpAnyH_ready (rs := [3, 6]) (by kernel_rfl) (by simp) ?_
      refine AllReadyH.cons (o := { dst := some 51, op := .load 25 (.tmp 50), type := _, pos := _, after := _, guard := none }) rfl (fun K0 hK => ?_) ?_
      ·-- the kids are read first
       have c3 : w0.cell? ⟨N, 3, none⟩ = some (.slice kA K kc) := H0.blk.cell 3
       go_simp
       refine hK.out _ _ (HBK.out _ BK0) (fun _ => ?_)
       clear hK K0 c3
       try simp only [Act.put, zA8, zB8, zC8]
       refine wpAnyH_take (i := 5) (v := .int .i64 (K : Int)) rfl (by kernel_rfl) (by kernel_rfl) (by kernel_rfl) (fun _ _ _ h => h) (Or.inl ⟨by rfl, by intro w hSw; clear hSw; go_simp⟩) (HBK.out _ BK0) ?_
       change wpAnyH _ _ _ _ _ _ _ (Act.put _ (some 53) _) _
       try simp only [Act.put, zA8, zB8, zC8]
       refine wpAnyH_ready (rs := [6]) (by kernel_rfl) (by simp) ?_
       refine AllReadyH.cons (o := { dst := some 54, op := .buildSlice 25 1 #[(0, .const (.agg #[.string ⟨#[]⟩, .string ⟨#[]⟩, .slice none 0 0, .slice none 0 0, .string ⟨#[]⟩]))], type := _, pos := _, after := _, guard := none }) rfl (fun K0 hK => ?_) AllReadyH.nil
       go_simp
       have hb1 := below_alloc8 w0 ZN
       have H1 := H0.below hb1
       have X1 := X0.below hb1
       have Z1 : Blk N0 ZN (w0.alloc ZN) := by have := Blk.new ZN w0; rwa [s0] at this
       have s1 : (w0.alloc ZN).heap.size = N0 + 1 := by simp [s0]
       have BW1 := hid hb1
       have BK1 := (Off.of_below hb1).blk BK0 (fun h => h)
       refine hK.out _ _ (HBK.out _ BK1) (fun _ => ?_)
       clear hK K0 hb1
       try simp only [Act.put, zA8, zB8, zC8]
       generalize w0.alloc ZN = w1 at *
       obtain ⟨i0, hi, hz0, hz1, hz2⟩ := info_parts Tryz.info8N
       refine wpAnyH_ready (rs := [7]) (by kernel_rfl) (by simp) ?_
       refine AllReadyH.cons (o := { dst := some 55, op := .call { callee := .builtin .append, args := #[.tmp 51, .tmp 54], argTypes := #[25, 25] }, type := _, pos := _, after := _, guard := none }) rfl (fun K' hK' => ?_) AllReadyH.nil
       refine step_append_lies w1 rfl (.tmp 51) (.tmp 54) 25 rfl (N + 1) TNo i0 _ 5 96 Tryz.underlying25 hi hz0 hz1 hz2 rfl (by decide) (.slice kA K kc) K cs rfl (by have := H1.kids; rw [HK.out] at this; exact this) ⟨N0, 0, none⟩ 1 1 zN5 rfl rfl (World.news_of_block Z1) (fun u hu => by simp at hu; rcases hu with rfl | rfl | rfl | rfl | rfl <;> rfl) (by decide) (by unfold maxLen; omega) (by omega) (by have := H0.blk.lt; omega) (N0 + 1) s1 ?_
       intro g cap w2 L2 gr2 at2 lt2
       have o2 := Off.of_grown gr2
       have hat : (Value.slice kA K kc).ownBlock = some g ∨ w0.heap.size ≤ g := at2.imp id (fun h => by omega)
       have hgN : N < g := by
        rcases hat with h | h
        ·exact (World.ownsRow.lt H0.kids g h).1
        ·have := H0.blk.lt; omega
       have hgT : ∀ b, Tn B R N (.slice kA K kc) w0 b → b ≠ g := fun b hb e => by
        subst e
        rcases hat with h | h
        ·exact hb.2.2.2.2 h
        ·have := hb.2.1; omega
       have hgK : Kb ≠ g := fun e => by
        rcases hat with h | h
        ·have := HKV.out g h; omega
        ·have := BK0.lt; omega
       have BK2 := o2.blk BK1 (fun e => by have := HKV.out Kb e; omega)
       refine hK'.out _ _ (HBK.out _ BK2) (fun _ => ?_)
       clear hK' K'
       try simp only [Act.put, zA8, zB8, zC8]
       have B2 := o2.blk H1.blk (fun e => by have := (World.ownsRow.lt H0.kids N e).1; omega)
       have hT1 : ∀ b, Tn B R N (.slice kA K kc) w1 b ∧ b < w0.heap.size → Tn B R N (.slice kA K kc) w0 b := fun b h => ⟨h.1.1, h.2, h.1.2.2⟩
       have R2 : XRs w2 (Tn B R N (.slice kA K kc) w0) (allX ks t) cs := XRs.off o2 (fun b hb e => hb.2.2.2.2 e) _ _ (XRs.off (Off.of_below (BW1.out)) (fun _ _ h => h) _ _ H0.read)
       have X2 : XR w2 (Tn B R N (.slice kA K kc) w0) v (.agg #[sV y0, sV y1, .slice yA mA yc, .slice ykA mK ykc, sV y4]) := XR.off o2 (fun b hb e => hb.2.2.2.2 e) _ _ (X0.below BW1.out)
       have A2 : RC w2 (Tn B R N (.slice kA K kc) w0) aA (cA al) := (AT0.below BW1.out).off o2 (fun b hb e => hb.2.2.2.2 e)
       have O2 : Off (fun b => N ≤ b) w0 w2 := ((Off.of_below BW1.out).mono (fun _ h => h.elim)).trans o2 (fun b h => .inl (by have := (World.ownsRow.lt H0.kids b h).1; omega))
       clear at2 gr2 o2 Z1 s1 hT1
       have hg1 : (0 : Int) ≤ (K : Int) ∧ (K : Int) < ((K + 1 : Nat) : Int) := by omega
       have hg2 : (0 : Int) ≤ (K : Int) ∧ (K : Int) < (K : Int) + 1 := by omega
       refine wpAnyH_take (i := 8) (v := .pointer (some ⟨g, K * 5, none⟩)) rfl (by kernel_rfl) (by kernel_rfl) (by kernel_rfl) (fun _ _ _ h => h) (Or.inl ⟨by rfl, by intro w hSw; clear hSw; go_simp⟩) (HBK.out _ BK2) ?_
       change wpAnyH _ _ _ _ _ _ _ (Act.put _ (some 56) _) _
       try simp only [Act.put, zA8, zB8, zC8]
       refine wpAnyH_take (i := 10) (v := .pointer (some ⟨N, 0, none⟩)) rfl (by kernel_rfl) (by kernel_rfl) (by kernel_rfl) (fun _ _ _ h => h) (Or.inl ⟨by rfl, by intro w hSw; clear hSw; go_simp⟩) (HBK.out _ BK2) ?_
       change wpAnyH _ _ _ _ _ _ _ (Act.put _ (some 57) _) _
       try simp only [Act.put, zA8, zB8, zC8]
       refine wpAnyH_take (i := 11) (v := .pointer (some ⟨N, 3, none⟩)) rfl (by kernel_rfl) (by kernel_rfl) (by kernel_rfl) (fun _ _ _ h => h) (Or.inl ⟨by rfl, by intro w hSw; clear hSw; go_simp⟩) (HBK.out _ BK2) ?_
       change wpAnyH _ _ _ _ _ _ _ (Act.put _ (some 58) _) _
       try simp only [Act.put, zA8, zB8, zC8]
       refine wpAnyH_ready (rs := [9, 12]) (by kernel_rfl) (by simp) ?_
       refine AllReadyH.cons (o := { dst := none, op := .store TNo (.tmp 56) (.tmp 52), type := _, pos := _, after := _, guard := none }) rfl (fun K0 hK => ?_) ?_
       ·-- the element first
        refine step_st5 rfl 56 52 rfl rfl w2 (b := g) (k := K * 5) (x0 := sV y0) (x1 := sV y1) (x2 := .slice yA mA yc) (x3 := .slice ykA mK ykc) (x4 := sV y4) rfl rfl (own5_there L2) (all5 rfl rfl rfl rfl rfl) ?_
        have o3 := off_sets8 g [sV y0, sV y1, .slice yA mA yc, .slice ykA mK ykc, sV y4] (K * 5) w2
        have L3 := own5_set (x0 := sV y0) (x1 := sV y1) (x2 := .slice yA mA yc) (x3 := .slice ykA mK ykc) (x4 := sV y4) (by have := H0.kids.1; rw [HK.out] at this; exact this) L2
        have B3 := o3.blk B2 (fun e => by omega)
        have R3 := XRs.off o3 (fun b hb e => hgT b hb e) _ _ R2
        have X3 := XR.off o3 (fun b hb e => hgT b hb e) _ _ X2
        have A3 := A2.off o3 (fun b hb e => hgT b hb e)
        have O3 := O2.trans o3 (fun b h => .inl (by omega))
        have BK3 := o3.blk BK2 (fun e => hgK e)
        refine hK.out _ _ (HBK.out _ BK3) (fun _ => ?_)
        clear hK
        generalize w2.setCells g (K * 5) [sV y0, sV y1, .slice yA mA yc, .slice ykA mK ykc, sV y4] = w3 at *
        refine wpAnyH_ready (rs := [12]) (by kernel_rfl) (by simp) ?_
        refine AllReadyH.cons (o := { dst := none, op := .store 25 (.tmp 58) (.tmp 55), type := _, pos := _, after := _, guard := none }) rfl (fun K0 hK => ?_) AllReadyH.nil
        refine step_stS rfl 58 55 rfl rfl w3 (b := N) (k := 3) (v := .slice (some ⟨g, 0, none⟩) (K + 1) cap) rfl rfl (B3.cell 3) (B3.free 3) ⟨_, _, _, rfl⟩ ?_
        have o4 := off_set8 w3 N 3 (.slice (some ⟨g, 0, none⟩) (K + 1) cap)
        have L4 := own_off L3 o4 (fun b hb e => by have : g = b := Option.some.inj hb; omega)
        have B4 : Blk N (.cells #[sV sp, sV nm, av, .slice (some ⟨g, 0, none⟩) (K + 1) cap, .string ⟨#[]⟩] TNo) (w3.setCell ⟨N, 3, none⟩ (.slice (some ⟨g, 0, none⟩) (K + 1) cap)) := by have := B3.set 3 (.slice (some ⟨g, 0, none⟩) (K + 1) cap); simpa using this
        have R4 := XRs.off o4 (fun b hb e => hb.2.2.2.1 e) _ _ R3
        have X4 := XR.off o4 (fun b hb e => hb.2.2.2.1 e) _ _ X3
        have A4 := A3.off o4 (fun b hb e => hb.2.2.2.1 e)
        have O4 := O3.trans o4 (fun b h => .inl (by omega))
        have BK4 := o4.blk BK3 (fun e => by omega)
        refine hK.out _ _ (HBK.out _ BK4) (fun _ => ?_)
        clear hK
        generalize w3.setCell ⟨N, 3, none⟩ (.slice (some ⟨g, 0, none⟩) (K + 1) cap) = w4 at *
        refine wpAnyH_done (by kernel_rfl) ?_ _
        have HN4 : Hid (NSt B R N sp nm al ((allX ks t) ++ [v]) av (.slice (some ⟨g, 0, none⟩) (K + 1) cap) (cs ++ [sV y0, sV y1, .slice yA mA yc, .slice ykA mK ykc, sV y4]) w4) := hid (H0.pushed HK.out B4 L4 (XRs.snoc X4 (allX ks t) cs R4) ⟨aA, ac, HAV.out, A4⟩ hat O4.size)
        have HO4 := hid O4
        clear L2 B2 R2 X2 A2 O2 L3 B3 R3 X3 A3 O3 L4 B4 R4 X4 A4 O4 o3 o4
        clear BK2 BK3 BK4
        have HT4 := hid ((HT5.out.below HD.out).off HO4.out (fun e => by omega))
        have HOE := hid (PF.trans (OX.pf (N := N) (OX.trans HO4x.out (OX.of HD.out))) (PF.of HO4.out))
        go_wp2
        go_ret
        exact PcO.good HF.out HOE.out HT4.out (by rw [allX_nil]; exact HN4.out) (LastE.snoc HVN.out)
       refine AllReadyH.cons (o := { dst := none, op := .store 25 (.tmp 58) (.tmp 55), type := _, pos := _, after := _, guard := none }) rfl (fun K0 hK => ?_) AllReadyH.nil
       refine step_stS rfl 58 55 rfl rfl w2 (b := N) (k := 3) (v := .slice (some ⟨g, 0, none⟩) (K + 1) cap) rfl rfl (B2.cell 3) (B2.free 3) ⟨_, _, _, rfl⟩ ?_
       have o3 := off_set8 w2 N 3 (.slice (some ⟨g, 0, none⟩) (K + 1) cap)
       have L3 := own_off L2 o3 (fun b hb e => by have : g = b := Option.some.inj hb; omega)
       have B3 : Blk N (.cells #[sV sp, sV nm, av, .slice (some ⟨g, 0, none⟩) (K + 1) cap, .string ⟨#[]⟩] TNo) (w2.setCell ⟨N, 3, none⟩ (.slice (some ⟨g, 0, none⟩) (K + 1) cap)) := by have := B2.set 3 (.slice (some ⟨g, 0, none⟩) (K + 1) cap); simpa using this
       have R3 := XRs.off o3 (fun b hb e => hb.2.2.2.1 e) _ _ R2
       have X3 := XR.off o3 (fun b hb e => hb.2.2.2.1 e) _ _ X2
       have A3 := A2.off o3 (fun b hb e => hb.2.2.2.1 e)
       have O3 := O2.trans o3 (fun b h => .inl (by omega))
       have BK3 := o3.blk BK2 (fun e => by omega)
       refine hK.out _ _ (HBK.out _ BK3) (fun _ => ?_)
       clear hK
       generalize w2.setCell ⟨N, 3, none⟩ (.slice (some ⟨g, 0, none⟩) (K + 1) cap) = w3 at *
       refine wpAnyH_ready (rs := [9]) (by kernel_rfl) (by simp) ?_
       refine AllReadyH.cons (o := { dst := none, op := .store TNo (.tmp 56) (.tmp 52), type := _, pos := _, after := _, guard := none }) rfl (fun K0 hK => ?_) AllReadyH.nil
       refine step_st5 rfl 56 52 rfl rfl w3 (b := g) (k := K * 5) (x0 := sV y0) (x1 := sV y1) (x2 := .slice yA mA yc) (x3 := .slice ykA mK ykc) (x4 := sV y4) rfl rfl (own5_there L3) (all5 rfl rfl rfl rfl rfl) ?_
       have o4 := off_sets8 g [sV y0, sV y1, .slice yA mA yc, .slice ykA mK ykc, sV y4] (K * 5) w3
       have L4 := own5_set (x0 := sV y0) (x1 := sV y1) (x2 := .slice yA mA yc) (x3 := .slice ykA mK ykc) (x4 := sV y4) (by have := H0.kids.1; rw [HK.out] at this; exact this) L3
       have B4 := o4.blk B3 (fun e => by omega)
       have R4 := XRs.off o4 (fun b hb e => hgT b hb e) _ _ R3
       have X4 := XR.off o4 (fun b hb e => hgT b hb e) _ _ X3
       have A4 := A3.off o4 (fun b hb e => hgT b hb e)
       have O4 := O3.trans o4 (fun b h => .inl (by omega))
       have BK4 := o4.blk BK3 (fun e => hgK e)
       refine hK.out _ _ (HBK.out _ BK4) (fun _ => ?_)
       clear hK
       generalize w3.setCells g (K * 5) [sV y0, sV y1, .slice yA mA yc, .slice ykA mK ykc, sV y4] = w4 at *
       refine wpAnyH_done (by kernel_rfl) ?_ _
       have HN4 : Hid (NSt B R N sp nm al ((allX ks t) ++ [v]) av (.slice (some ⟨g, 0, none⟩) (K + 1) cap) (cs ++ [sV y0, sV y1, .slice yA mA yc, .slice ykA mK ykc, sV y4]) w4) := hid (H0.pushed HK.out B4 L4 (XRs.snoc X4 (allX ks t) cs R4) ⟨aA, ac, HAV.out, A4⟩ hat O4.size)
       have HO4 := hid O4
       clear L2 B2 R2 X2 A2 O2 L3 B3 R3 X3 A3 O3 L4 B4 R4 X4 A4 O4 o3 o4
       clear BK2 BK3 BK4
       have HT4 := hid ((HT5.out.below HD.out).off HO4.out (fun e => by omega))
       have HOE := hid (PF.trans (OX.pf (N := N) (OX.trans HO4x.out (OX.of HD.out))) (PF.of HO4.out))
       go_wp2
       go_ret
       exact PcO.good HF.out HOE.out HT4.out (by rw [allX_nil]; exact HN4.out) (LastE.snoc HVN.out)
      refine AllReadyH.cons (o := { dst := some 54, op := .buildSlice 25 1 #[(0, .const (.agg #[.string ⟨#[]⟩, .string ⟨#[]⟩, .slice none 0 0, .slice none 0 0, .string ⟨#[]⟩]))], type := _, pos := _, after := _, guard := none }) rfl (fun K0 hK => ?_) AllReadyH.nil
      go_simp
      have hb1 := below_alloc8 w0 ZN
      have H1 := H0.below hb1
      have X1 := X0.below hb1
      have Z1 : Blk N0 ZN (w0.alloc ZN) := by have := Blk.new ZN w0; rwa [s0] at this
      have s1 : (w0.alloc ZN).heap.size = N0 + 1 := by simp [s0]
      have BW1 := hid hb1
      have BK1 := (Off.of_below hb1).blk BK0 (fun h => h)
      refine hK.out _ _ (HBK.out _ BK1) (fun _ => ?_)
      clear hK K0 hb1
      try simp only [Act.put, zA8, zB8, zC8]
      generalize w0.alloc ZN = w1 at *
      refine wpAnyH_ready (rs := [3]) (by kernel_rfl) (by simp) ?_
      refine AllReadyH.cons (o := { dst := some 51, op := .load 25 (.tmp 50), type := _, pos := _, after := _, guard := none }) rfl (fun K0 hK => ?_) AllReadyH.nil
      have c3 : w1.cell? ⟨N, 3, none⟩ = some (.slice kA K kc) := H1.blk.cell 3
      go_simp
      refine hK.out _ _ (HBK.out _ BK1) (fun _ => ?_)
      clear hK K0 c3
      try simp only [Act.put, zA8, zB8, zC8]
      refine wpAnyH_take (i := 5) (v := .int .i64 (K : Int)) rfl (by kernel_rfl) (by kernel_rfl) (by kernel_rfl) (fun _ _ _ h => h) (Or.inl ⟨by rfl, by intro w hSw; clear hSw; go_simp⟩) (HBK.out _ BK1) ?_
      change wpAnyH _ _ _ _ _ _ _ (Act.put _ (some 53) _) _
      try simp only [Act.put, zA8, zB8, zC8]
      obtain ⟨i0, hi, hz0, hz1, hz2⟩ := info_parts Tryz.info8N
      refine wpAnyH_ready (rs := [7]) (by kernel_rfl) (by simp) ?_
      refine AllReadyH.cons (o := { dst := some 55, op := .call { callee := .builtin .append, args := #[.tmp 51, .tmp 54], argTypes := #[25, 25] }, type := _, pos := _, after := _, guard := none }) rfl (fun K' hK' => ?_) AllReadyH.nil
      refine step_append_lies w1 rfl (.tmp 51) (.tmp 54) 25 rfl (N + 1) TNo i0 _ 5 96 Tryz.underlying25 hi hz0 hz1 hz2 rfl (by decide) (.slice kA K kc) K cs rfl (by have := H1.kids; rw [HK.out] at this; exact this) ⟨N0, 0, none⟩ 1 1 zN5 rfl rfl (World.news_of_block Z1) (fun u hu => by simp at hu; rcases hu with rfl | rfl | rfl | rfl | rfl <;> rfl) (by decide) (by unfold maxLen; omega) (by omega) (by have := H0.blk.lt; omega) (N0 + 1) s1 ?_
      intro g cap w2 L2 gr2 at2 lt2
      have o2 := Off.of_grown gr2
      have hat : (Value.slice kA K kc).ownBlock = some g ∨ w0.heap.size ≤ g := at2.imp id (fun h => by omega)
      have hgN : N < g := by
       rcases hat with h | h
       ·exact (World.ownsRow.lt H0.kids g h).1
       ·have := H0.blk.lt; omega
      have hgT : ∀ b, Tn B R N (.slice kA K kc) w0 b → b ≠ g := fun b hb e => by
       subst e
       rcases hat with h | h
       ·exact hb.2.2.2.2 h
       ·have := hb.2.1; omega
      have hgK : Kb ≠ g := fun e => by
       rcases hat with h | h
       ·have := HKV.out g h; omega
       ·have := BK0.lt; omega
      have BK2 := o2.blk BK1 (fun e => by have := HKV.out Kb e; omega)
      refine hK'.out _ _ (HBK.out _ BK2) (fun _ => ?_)
      clear hK' K'
      try simp only [Act.put, zA8, zB8, zC8]
      have B2 := o2.blk H1.blk (fun e => by have := (World.ownsRow.lt H0.kids N e).1; omega)
      have hT1 : ∀ b, Tn B R N (.slice kA K kc) w1 b ∧ b < w0.heap.size → Tn B R N (.slice kA K kc) w0 b := fun b h => ⟨h.1.1, h.2, h.1.2.2⟩
      have R2 : XRs w2 (Tn B R N (.slice kA K kc) w0) (allX ks t) cs := XRs.off o2 (fun b hb e => hb.2.2.2.2 e) _ _ (XRs.off (Off.of_below (BW1.out)) (fun _ _ h => h) _ _ H0.read)
      have X2 : XR w2 (Tn B R N (.slice kA K kc) w0) v (.agg #[sV y0, sV y1, .slice yA mA yc, .slice ykA mK ykc, sV y4]) := XR.off o2 (fun b hb e => hb.2.2.2.2 e) _ _ (X0.below BW1.out)
      have A2 : RC w2 (Tn B R N (.slice kA K kc) w0) aA (cA al) := (AT0.below BW1.out).off o2 (fun b hb e => hb.2.2.2.2 e)
      have O2 : Off (fun b => N ≤ b) w0 w2 := ((Off.of_below BW1.out).mono (fun _ h => h.elim)).trans o2 (fun b h => .inl (by have := (World.ownsRow.lt H0.kids b h).1; omega))
      clear at2 gr2 o2 Z1 s1 hT1
      have hg1 : (0 : Int) ≤ (K : Int) ∧ (K : Int) < ((K + 1 : Nat) : Int) := by omega
      have hg2 : (0 : Int) ≤ (K : Int) ∧ (K : Int) < (K : Int) + 1 := by omega
      refine wpAnyH_take (i := 8) (v := .pointer (some ⟨g, K * 5, none⟩)) rfl (by kernel_rfl) (by kernel_rfl) (by kernel_rfl) (fun _ _ _ h => h) (Or.inl ⟨by rfl, by intro w hSw; clear hSw; go_simp⟩) (HBK.out _ BK2) ?_
      change wpAnyH _ _ _ _ _ _ _ (Act.put _ (some 56) _) _
      try simp only [Act.put, zA8, zB8, zC8]
      refine wpAnyH_take (i := 10) (v := .pointer (some ⟨N, 0, none⟩)) rfl (by kernel_rfl) (by kernel_rfl) (by kernel_rfl) (fun _ _ _ h => h) (Or.inl ⟨by rfl, by intro w hSw; clear hSw; go_simp⟩) (HBK.out _ BK2) ?_
      change wpAnyH _ _ _ _ _ _ _ (Act.put _ (some 57) _) _
      try simp only [Act.put, zA8, zB8, zC8]
      refine wpAnyH_take (i := 11) (v := .pointer (some ⟨N, 3, none⟩)) rfl (by kernel_rfl) (by kernel_rfl) (by kernel_rfl) (fun _ _ _ h => h) (Or.inl ⟨by rfl, by intro w hSw; clear hSw; go_simp⟩) (HBK.out _ BK2) ?_
      change wpAnyH _ _ _ _ _ _ _ (Act.put _ (some 58) _) _
      try simp only [Act.put, zA8, zB8, zC8]
      refine wpAnyH_ready (rs := [9, 12]) (by kernel_rfl) (by simp) ?_
      refine AllReadyH.cons (o := { dst := none, op := .store TNo (.tmp 56) (.tmp 52), type := _, pos := _, after := _, guard := none }) rfl (fun K0 hK => ?_) ?_
      ·-- the element first
       refine step_st5 rfl 56 52 rfl rfl w2 (b := g) (k := K * 5) (x0 := sV y0) (x1 := sV y1) (x2 := .slice yA mA yc) (x3 := .slice ykA mK ykc) (x4 := sV y4) rfl rfl (own5_there L2) (all5 rfl rfl rfl rfl rfl) ?_
       have o3 := off_sets8 g [sV y0, sV y1, .slice yA mA yc, .slice ykA mK ykc, sV y4] (K * 5) w2
       have L3 := own5_set (x0 := sV y0) (x1 := sV y1) (x2 := .slice yA mA yc) (x3 := .slice ykA mK ykc) (x4 := sV y4) (by have := H0.kids.1; rw [HK.out] at this; exact this) L2
       have B3 := o3.blk B2 (fun e => by omega)
       have R3 := XRs.off o3 (fun b hb e => hgT b hb e) _ _ R2
       have X3 := XR.off o3 (fun b hb e => hgT b hb e) _ _ X2
       have A3 := A2.off o3 (fun b hb e => hgT b hb e)
       have O3 := O2.trans o3 (fun b h => .inl (by omega))
       have BK3 := o3.blk BK2 (fun e => hgK e)
       refine hK.out _ _ (HBK.out _ BK3) (fun _ => ?_)
       clear hK
       generalize w2.setCells g (K * 5) [sV y0, sV y1, .slice yA mA yc, .slice ykA mK ykc, sV y4] = w3 at *
       refine wpAnyH_ready (rs := [12]) (by kernel_rfl) (by simp) ?_
       refine AllReadyH.cons (o := { dst := none, op := .store 25 (.tmp 58) (.tmp 55), type := _, pos := _, after := _, guard := none }) rfl (fun K0 hK => ?_) AllReadyH.nil
       refine step_stS rfl 58 55 rfl rfl w3 (b := N) (k := 3) (v := .slice (some ⟨g, 0, none⟩) (K + 1) cap) rfl rfl (B3.cell 3) (B3.free 3) ⟨_, _, _, rfl⟩ ?_
       have o4 := off_set8 w3 N 3 (.slice (some ⟨g, 0, none⟩) (K + 1) cap)
       have L4 := own_off L3 o4 (fun b hb e => by have : g = b := Option.some.inj hb; omega)
       have B4 : Blk N (.cells #[sV sp, sV nm, av, .slice (some ⟨g, 0, none⟩) (K + 1) cap, .string ⟨#[]⟩] TNo) (w3.setCell ⟨N, 3, none⟩ (.slice (some ⟨g, 0, none⟩) (K + 1) cap)) := by have := B3.set 3 (.slice (some ⟨g, 0, none⟩) (K + 1) cap); simpa using this
       have R4 := XRs.off o4 (fun b hb e => hb.2.2.2.1 e) _ _ R3
       have X4 := XR.off o4 (fun b hb e => hb.2.2.2.1 e) _ _ X3
       have A4 := A3.off o4 (fun b hb e => hb.2.2.2.1 e)
       have O4 := O3.trans o4 (fun b h => .inl (by omega))
       have BK4 := o4.blk BK3 (fun e => by omega)
       refine hK.out _ _ (HBK.out _ BK4) (fun _ => ?_)
       clear hK
       generalize w3.setCell ⟨N, 3, none⟩ (.slice (some ⟨g, 0, none⟩) (K + 1) cap) = w4 at *
       refine wpAnyH_done (by kernel_rfl) ?_ _
       have HN4 : Hid (NSt B R N sp nm al ((allX ks t) ++ [v]) av (.slice (some ⟨g, 0, none⟩) (K + 1) cap) (cs ++ [sV y0, sV y1, .slice yA mA yc, .slice ykA mK ykc, sV y4]) w4) := hid (H0.pushed HK.out B4 L4 (XRs.snoc X4 (allX ks t) cs R4) ⟨aA, ac, HAV.out, A4⟩ hat O4.size)
       have HO4 := hid O4
       clear L2 B2 R2 X2 A2 O2 L3 B3 R3 X3 A3 O3 L4 B4 R4 X4 A4 O4 o3 o4
       clear BK2 BK3 BK4
       have HT4 := hid ((HT5.out.below HD.out).off HO4.out (fun e => by omega))
       have HOE := hid (PF.trans (OX.pf (N := N) (OX.trans HO4x.out (OX.of HD.out))) (PF.of HO4.out))
       go_wp2
       go_ret
       exact PcO.good HF.out HOE.out HT4.out (by rw [allX_nil]; exact HN4.out) (LastE.snoc HVN.out)
      refine AllReadyH.cons (o := { dst := none, op := .store 25 (.tmp 58) (.tmp 55), type := _, pos := _, after := _, guard := none }) rfl (fun K0 hK => ?_) AllReadyH.nil
      refine step_stS rfl 58 55 rfl rfl w2 (b := N) (k := 3) (v := .slice (some ⟨g, 0, none⟩) (K + 1) cap) rfl rfl (B2.cell 3) (B2.free 3) ⟨_, _, _, rfl⟩ ?_
      have o3 := off_set8 w2 N 3 (.slice (some ⟨g, 0, none⟩) (K + 1) cap)
      have L3 := own_off L2 o3 (fun b hb e => by have : g = b := Option.some.inj hb; omega)
      have B3 : Blk N (.cells #[sV sp, sV nm, av, .slice (some ⟨g, 0, none⟩) (K + 1) cap, .string ⟨#[]⟩] TNo) (w2.setCell ⟨N, 3, none⟩ (.slice (some ⟨g, 0, none⟩) (K + 1) cap)) := by have := B2.set 3 (.slice (some ⟨g, 0, none⟩) (K + 1) cap); simpa using this
      have R3 := XRs.off o3 (fun b hb e => hb.2.2.2.1 e) _ _ R2
      have X3 := XR.off o3 (fun b hb e => hb.2.2.2.1 e) _ _ X2
      have A3 := A2.off o3 (fun b hb e => hb.2.2.2.1 e)
      have O3 := O2.trans o3 (fun b h => .inl (by omega))
      have BK3 := o3.blk BK2 (fun e => by omega)
      refine hK.out _ _ (HBK.out _ BK3) (fun _ => ?_)
      clear hK
      generalize w2.setCell ⟨N, 3, none⟩ (.slice (some ⟨g, 0, none⟩) (K + 1) cap) = w3 at *
      refine wpAnyH_ready (rs := [9]) (by kernel_rfl) (by simp) ?_
      refine AllReadyH.cons (o := { dst := none, op := .store TNo (.tmp 56) (.tmp 52), type := _, pos := _, after := _, guard := none }) rfl (fun K0 hK => ?_) AllReadyH.nil
      refine step_st5 rfl 56 52 rfl rfl w3 (b := g) (k := K * 5) (x0 := sV y0) (x1 := sV y1) (x2 := .slice yA mA yc) (x3 := .slice ykA mK ykc) (x4 := sV y4) rfl rfl (own5_there L3) (all5 rfl rfl rfl rfl rfl) ?_
      have o4 := off_sets8 g [sV y0, sV y1, .slice yA mA yc, .slice ykA mK ykc, sV y4] (K * 5) w3
      have L4 := own5_set (x0 := sV y0) (x1 := sV y1) (x2 := .slice yA mA yc) (x3 := .slice ykA mK ykc) (x4 := sV y4) (by have := H0.kids.1; rw [HK.out] at this; exact this) L3
      have B4 := o4.blk B3 (fun e => by omega)
      have R4 := XRs.off o4 (fun b hb e => hgT b hb e) _ _ R3
      have X4 := XR.off o4 (fun b hb e => hgT b hb e) _ _ X3
      have A4 := A3.off o4 (fun b hb e => hgT b hb e)
      have O4 := O3.trans o4 (fun b h => .inl (by omega))
      have BK4 := o4.blk BK3 (fun e => hgK e)
      refine hK.out _ _ (HBK.out _ BK4) (fun _ => ?_)
      clear hK
      generalize w3.setCells g (K * 5) [sV y0, sV y1, .slice yA mA yc, .slice ykA mK ykc, sV y4] = w4 at *
      refine wpAnyH_done (by kernel_rfl) ?_ _
      have HN4 : Hid (NSt B R N sp nm al ((allX ks t) ++ [v]) av (.slice (some ⟨g, 0, none⟩) (K + 1) cap) (cs ++ [sV y0, sV y1, .slice yA mA yc, .slice ykA mK ykc, sV y4]) w4) := hid (H0.pushed HK.out B4 L4 (XRs.snoc X4 (allX ks t) cs R4) ⟨aA, ac, HAV.out, A4⟩ hat O4.size)
      have HO4 := hid O4
      clear L2 B2 R2 X2 A2 O2 L3 B3 R3 X3 A3 O3 L4 B4 R4 X4 A4 O4 o3 o4
      clear BK2 BK3 BK4
      have HT4 := hid ((HT5.out.below HD.out).off HO4.out (fun e => by omega))
      have HOE := hid (PF.trans (OX.pf (N := N) (OX.trans HO4x.out (OX.of HD.out))) (PF.of HO4.out))
      go_wp2
      go_ret
      exact PcO.good HF.out HOE.out HT4.out (by rw [allX_nil]; exact HN4.out) (LastE.snoc HVN.out)
    | none =>
     have HC3 := hid (fun W (hW : TL X s r W) => HW2.out W r _ hW h3)
     have HQ3 : Hid (o = match textL r with
      | none => .error 70
      | some (x, r) => .ok (r, ks, t ++ x)) := hid (by rw [HQ.out, h1]; simp only [h2, h3])
     clear h1 h2 h3 HQ
     go_enter Tryz.func59, Tryz.ntmps59
     go_wp2_with fail
     refine HC1.out.mono ?_
     rintro e w1 ⟨rfl, t1, o1⟩
     go_wp2_with fail
     refine (HC2.out _ t1).mono ?_
     rintro e w2 ⟨o2, rfl, t2⟩
     go_wp2_with fail
     refine (HC3.out _ t2).mono ?_
     rintro e w3 ⟨rfl, t3, o3⟩
     obtain ⟨k, hT3, hk0, hr⟩ : TL X s r w3 := t3
     have HO3 := hid (OX.trans (OX.trans o1 o2) o3)
     have HT3 := hid hT3
     have c1 := hT3.c1
     clear t1 o1 t2 o2 o3 hT3
     obtain ⟨n, hn⟩ : ∃ n, s.length = n := ⟨_, rfl⟩
     have HN := hid hn
     have hsz : (bs s).size = n := by rw [bs_size, hn]
     have hn9 : n ≤ 65536 := by have := HS9.out; omega
     have hkn : k ≤ n := by omega
     have HKR : Hid (k + r.length = n) := hid (by omega)
     have HR0 := hid hr
     have HLK : Hid (∀ W j ob, TS X s j W → j ≤ n → cdendW.isPrefixOf (s.drop j) = ob → Calls Tryz.prog 31 #[.pointer (some ⟨X, 0, none⟩), .string ⟨#[93, 93, 62]⟩] W (fun e w' => e = .returned (.bool ob) ∧ Below W.heap.size W w')) := hid (fun W j ob hW hj ho => tlooks_any hW (by omega) hs9 cdendW (by decide) (by decide) ob ho)
     have HSL2 := hid (fun (j : Nat) (h1 : k ≤ j) (h2 : j ≤ n) W => slice_mid s k (j - k) (j : Int) (by omega) (by omega) _ rfl W)
     have HBX := hid (fun (j : Nat) (hj : j < s.length) W => byte_run8 s j _ hj rfl W)
     have I0 : Hid (r.takeWhile ltN = r.take (k - k) ++ (s.drop k).takeWhile ltN ∧ r.dropWhile ltN = (s.drop k).dropWhile ltN ∧ (toL cdendW (r.takeWhile ltN)).isSome = (toL cdendW ((s.drop k).takeWhile ltN)).isSome) := hid (by rw [HR0.out, Nat.sub_self, List.take_zero, List.nil_append]; exact ⟨rfl, rfl, rfl⟩)
     clear hn hk0 hr hs9
     go_wp2
     clear c1
     go_loopw [] (fun wr => ∃ j, k ≤ j ∧ j ≤ n ∧ Hid (TS X s j wr) ∧ Hid (OX X w wr) ∧ Hid (r.takeWhile ltN = r.take (j - k) ++ (s.drop j).takeWhile ltN ∧ r.dropWhile ltN = (s.drop j).dropWhile ltN ∧ (toL cdendW (r.takeWhile ltN)).isSome = (toL cdendW ((s.drop j).takeWhile ltN)).isSome)) (fun wr => n - atOf X wr)
     case atStart => exact ⟨k, Nat.le_refl _, hkn, HT3, HO3, I0⟩
     case round =>
      clear HT3 HO3 I0
      obtain ⟨j, hkj, hjn, HT, HO, HI⟩ := hrel
      have HAT := hid HT.out.at
      have c0 := HT.out.c0
      have c1 := HT.out.c1
      have i0' : (0 : Int) ≤ (j : Int) := by omega
      by_cases hjl : j < n
      ·have hjs : j < s.length := by rw [HN.out]; exact hjl
       have hdk : decide ((j : Int) < (n : Int)) = true := decide_eq_true (by omega)
       have hdi : (j : Int) < (n : Int) := by omega
       have hix := HBX.out j hjs
       have HD := hid (drop_a8 s j hjs)
       obtain ⟨c9, hc⟩ : ∃ c, s[j] = c := ⟨_, rfl⟩
       rw [hc] at hix HD
       clear hc
       cases hlt : ltN c9 with
       | true =>
        obtain ⟨e1, e2, e3⟩ := lt_ne hlt
        cases hp : cdendW.isPrefixOf (s.drop j) with
        | true =>
         have HF : Hid (o = .error 70) := hid (by
          rw [HQ3.out, text_split, if_pos]
          left
          rw [HI.out.2.2, HD.out, List.takeWhile_cons_of_pos hlt]
          refine to_isSome_yes ?_
          rw [← List.takeWhile_cons_of_pos hlt, ← HD.out, ← pre_tw _ _ (by decide)]
          exact hp)
         have HL := hid (fun W h => HLK.out W j true h hjn hp)
         clear hp hlt
         go_wp2
         go_quiet (fail)
         obtain ⟨Z, hZ⟩ : ∃ Z, Z = wr.drewN nq := ⟨_, rfl⟩
         rw [← hZ]
         have hTZ : TS X s j Z := by rw [hZ]; exact HT.out.drewN nq
         have HOZ : Hid (OX X w Z) := hid (by rw [hZ]; exact HO.out.drewN nq)
         clear hZ c0 c1
         go_wp2_with fail
         refine (HL.out _ hTZ).mono ?_
         rintro e w4 ⟨rfl, b4⟩
         have HO4 := hid (OX.trans HOZ.out (OX.of b4))
         clear b4 hTZ
         go_wp2
         go_ret
         exact PcO.bad HF.out (by decide) (OX.pf HO4.out)
        | false =>
         have HI2 : Hid (r.takeWhile ltN = r.take (j + 1 - k) ++ (s.drop (j + 1)).takeWhile ltN ∧ r.dropWhile ltN = (s.drop (j + 1)).dropWhile ltN ∧ (toL cdendW (r.takeWhile ltN)).isSome = (toL cdendW ((s.drop (j + 1)).takeWhile ltN)).isSome) := hid (by
          obtain ⟨h1, h2, h3⟩ := HI.out
          have e1 : r.take (j + 1 - k) = r.take (j - k) ++ [c9] := by
           rw [← HR0.out, take_more hkj, HD.out]
           rfl
          refine ⟨?_, ?_, ?_⟩
          ·rw [h1, e1, HD.out, List.takeWhile_cons_of_pos hlt, List.append_assoc]
           rfl
          ·rw [h2, HD.out, List.dropWhile_cons_of_pos hlt]
          ·rw [h3, HD.out, List.takeWhile_cons_of_pos hlt]
           refine to_isSome_cons ?_
           rw [← List.takeWhile_cons_of_pos hlt, ← HD.out, ← pre_tw _ _ (by decide)]
           exact hp)
         have HL := hid (fun W h => HLK.out W j false h hjn hp)
         clear hp hlt
         go_wp2
         go_quiet (fail)
         obtain ⟨Z, hZ⟩ : ∃ Z, Z = wr.drewN nq := ⟨_, rfl⟩
         rw [← hZ]
         have hTZ : TS X s j Z := by rw [hZ]; exact HT.out.drewN nq
         have HOZ : Hid (OX X w Z) := hid (by rw [hZ]; exact HO.out.drewN nq)
         clear hZ c0 c1
         go_wp2_with fail
         refine (HL.out _ hTZ).mono ?_
         rintro e w4 ⟨rfl, b4⟩
         have hT4 := hTZ.below b4
         have HO4 := hid (OX.trans HOZ.out (OX.of b4))
         have z1 := hT4.c1
         have zf := hT4.free 1
         have HNW : Hid (TS X s (j + 1) (w4.setCell ⟨X, 1, none⟩ (.int .i64 ((j : Int) + 1)))) := hid (hT4.set (j + 1))
         clear b4 hTZ hT4
         go_wp2
         exact ⟨⟨j + 1, by omega, by omega, HNW, hid (OX.trans HO4.out (off_set8 _ _ _ _)), HI2⟩, by rw [HNW.out.at, HAT.out]; omega⟩
       | false =>
        obtain rfl := lt_eq hlt
        have hix2 : ∀ W : World, (Instr.index 9 (.string (bs s)) (.int .i64 j)).run Tryz.prog W = .ok (.int .u8 60) W := hix
        have HRU : Hid (r.takeWhile ltN = r.take (j - k) ∧ r.dropWhile ltN = s.drop j ∧ s.drop j ≠ [] ∧ (toL cdendW (r.takeWhile ltN)).isSome = false) := hid (by
         obtain ⟨h1, h2, h3⟩ := HI.out
         have hn2 : ¬ ltN 60 = true := by decide
         refine ⟨?_, ?_, ?_, ?_⟩
         ·rw [h1, HD.out, List.takeWhile_cons_of_neg hn2, List.append_nil]
         ·rw [h2, HD.out, List.dropWhile_cons_of_neg hn2]
         ·rw [HD.out]; exact List.cons_ne_nil _ _
         ·rw [h3, HD.out, List.takeWhile_cons_of_neg hn2]; rfl)
        have HFX : Hid (o = match refsL (linesL (r.take (j - k))) with | none => .error 70 | some x => .ok (s.drop j, ks, t ++ x)) := hid (by
         rw [HQ3.out, text_split, if_neg (by rintro (h | h); · rw [HRU.out.2.2.2] at h; cases h
                                             ·exact HRU.out.2.2.1 (HRU.out.2.1 ▸ h)), HRU.out.1, HRU.out.2.1]
         cases refsL (linesL (r.take (j - k))) <;> rfl)
        have hq1 : ((j : Int) == (n : Int)) = false := by simp; omega
        have hq2 : ¬ (j : Int) = (n : Int) := by omega
        clear hix hlt HI
        go_wp2
        go_quiet (fail)
        obtain ⟨Z, hZ⟩ : ∃ Z, Z = wr.drewN nq := ⟨_, rfl⟩
        rw [← hZ]
        have hTZ : TS X s j Z := by rw [hZ]; exact HT.out.drewN nq
        have HOZ : Hid (OX X w Z) := hid (by rw [hZ]; exact HO.out.drewN nq)
        have hsl := HSL2.out j hkj hjn
        obtain ⟨run, hrun⟩ : ∃ x, (s.drop k).take (j - k) = x := ⟨_, rfl⟩
        rw [hrun] at hsl
        have hrl : run.length ≤ r.length := by rw [← hrun, HR0.out, List.length_take]; omega
        have hll := lines_le run
        have hpo := HPOT.out
        have hkr := HKR.out
        have HCl := hid (fun W => HLN.out run (by omega) W)
        have HCr := hid (fun W => HRF.out (linesL run) (by omega) W)
        have hrfl := refs_le (linesL run)
        have HRN : Hid (r.take (j - k) = run) := hid (by rw [← HR0.out]; exact hrun)
        obtain ⟨rf, hrf⟩ : ∃ x, refsL (linesL run) = x := ⟨_, rfl⟩
        rw [hrf] at HCr hrfl
        obtain ⟨q5, hq5⟩ : ∃ x, rf.getD [] = x := ⟨_, rfl⟩
        obtain ⟨b5, hb5⟩ : ∃ x, rf.isSome = x := ⟨_, rfl⟩
        rw [hq5, hb5] at HCr
        have HF0 : Hid (b5 = false → o = .error 70) := hid (fun h => by
         rw [HFX.out, HRN.out, hrf]
         cases rf with
         | none => rfl
         | some x => rw [← hb5] at h; cases h)
        have HF1 : Hid (b5 = true → o = .ok (s.drop j, ks, t ++ q5)) := hid (fun h => by
         rw [HFX.out, HRN.out, hrf]
         cases rf with
         | none => rw [← hb5] at h; cases h
         | some x => rw [← hq5]; rfl)
        have HQL : Hid (q5.length ≤ 500000) := hid (by
         rw [← hq5]
         cases rf with
         | none => simp
         | some x => have := hrfl x rfl; simp only [Option.getD_some]; omega)
        have i1' : (0 : Int) ≤ (k : Int) := by omega
        have i2' : (k : Int) ≤ (j : Int) := by omega
        have i3' : (j : Int) ≤ (n : Int) := by omega
        clear hZ c0 c1 hrun hrl hll hpo hkr hrfl hrf hq5 hb5 HFX HRU
        go_wp2
        have bd : Below Z.heap.size Z Z.drew := below_drewN (Below.refl _ _) 1
        have J0 := hTZ.below bd
        have HO5 := hid (OX.trans HOZ.out (OX.of bd))
        refine wp_region_held_drew (S := fun W => W.cell? ⟨X, 0, none⟩ = some (.string (bs s)) ∧ W.cell? ⟨X, 1, none⟩ = some (.int .i64 j)) (by kernel_rfl) ⟨J0.c0, J0.c1⟩ (fun _ => ?_)
        clear bd
        generalize Z.drew = z0 at *
        refine wpAnyH_take (i := 0) (v := .pointer (some ⟨X, 0, none⟩)) rfl (by kernel_rfl) (by kernel_rfl) (by kernel_rfl) (fun _ _ _ h => h) (Or.inl ⟨by rfl, by intro w hSw; clear hSw; go_simp⟩) (⟨J0.c0, J0.c1⟩) ?_
        change wpAnyH _ _ _ _ _ _ _ (Act.put _ (some 96) _) _
        try simp only [Act.put, zA8, zB8, zC8]
        refine wpAnyH_take (i := 1) (v := .pointer (some ⟨X, 0, none⟩)) rfl (by kernel_rfl) (by kernel_rfl) (by kernel_rfl) (fun _ _ _ h => h) (Or.inl ⟨by rfl, by intro w hSw; clear hSw; go_simp⟩) (⟨J0.c0, J0.c1⟩) ?_
        change wpAnyH _ _ _ _ _ _ _ (Act.put _ (some 97) _) _
        try simp only [Act.put, zA8, zB8, zC8]
        refine wpAnyH_take (i := 2) (v := .pointer (some ⟨X, 0, none⟩)) rfl (by kernel_rfl) (by kernel_rfl) (by kernel_rfl) (fun _ _ _ h => h) (Or.inl ⟨by rfl, by intro w hSw; clear hSw; go_simp⟩) (⟨J0.c0, J0.c1⟩) ?_
        change wpAnyH _ _ _ _ _ _ _ (Act.put _ (some 98) _) _
        try simp only [Act.put, zA8, zB8, zC8]
        refine wpAnyH_take (i := 3) (v := .string (bs s)) rfl (by kernel_rfl) (by kernel_rfl) (by kernel_rfl) (fun _ _ _ h => h) (Or.inl ⟨by rfl, by intro w hSw; (try dsimp only at hSw); go_simp⟩) (⟨J0.c0, J0.c1⟩) ?_
        change wpAnyH _ _ _ _ _ _ _ (Act.put _ (some 99) _) _
        try simp only [Act.put, zA8, zB8, zC8]
        refine wpAnyH_take (i := 4) (v := .int .i64 k) rfl (by kernel_rfl) (by kernel_rfl) (by kernel_rfl) (fun _ _ _ h => h) (Or.inl ⟨by rfl, by intro w hSw; clear hSw; go_simp⟩) (⟨J0.c0, J0.c1⟩) ?_
        change wpAnyH _ _ _ _ _ _ _ (Act.put _ (some 100) _) _
        try simp only [Act.put, zA8, zB8, zC8]
        refine wpAnyH_take (i := 5) (v := .pointer (some ⟨X, 0, none⟩)) rfl (by kernel_rfl) (by kernel_rfl) (by kernel_rfl) (fun _ _ _ h => h) (Or.inl ⟨by rfl, by intro w hSw; clear hSw; go_simp⟩) (⟨J0.c0, J0.c1⟩) ?_
        change wpAnyH _ _ _ _ _ _ _ (Act.put _ (some 101) _) _
        try simp only [Act.put, zA8, zB8, zC8]
        refine wpAnyH_take (i := 6) (v := .pointer (some ⟨X, 0, none⟩)) rfl (by kernel_rfl) (by kernel_rfl) (by kernel_rfl) (fun _ _ _ h => h) (Or.inl ⟨by rfl, by intro w hSw; clear hSw; go_simp⟩) (⟨J0.c0, J0.c1⟩) ?_
        change wpAnyH _ _ _ _ _ _ _ (Act.put _ (some 102) _) _
        try simp only [Act.put, zA8, zB8, zC8]
        refine wpAnyH_take (i := 7) (v := .pointer (some ⟨X, 1, none⟩)) rfl (by kernel_rfl) (by kernel_rfl) (by kernel_rfl) (fun _ _ _ h => h) (Or.inl ⟨by rfl, by intro w hSw; clear hSw; go_simp⟩) (⟨J0.c0, J0.c1⟩) ?_
        change wpAnyH _ _ _ _ _ _ _ (Act.put _ (some 103) _) _
        try simp only [Act.put, zA8, zB8, zC8]
        refine wpAnyH_take (i := 8) (v := .int .i64 j) rfl (by kernel_rfl) (by kernel_rfl) (by kernel_rfl) (fun _ _ _ h => h) (Or.inl ⟨by rfl, by intro w hSw; (try dsimp only at hSw); go_simp⟩) (⟨J0.c0, J0.c1⟩) ?_
        change wpAnyH _ _ _ _ _ _ _ (Act.put _ (some 104) _) _
        try simp only [Act.put, zA8, zB8, zC8]
        refine wpAnyH_take (i := 9) (v := .string (bs run)) rfl (by kernel_rfl) (by kernel_rfl) (by kernel_rfl) (fun _ _ _ h => h) (Or.inl ⟨by rfl, by intro w hSw; clear hSw; go_simp⟩) (⟨J0.c0, J0.c1⟩) ?_
        change wpAnyH _ _ _ _ _ _ _ (Act.put _ (some 105) _) _
        try simp only [Act.put, zA8, zB8, zC8]
        refine wpAnyH_ready (rs := [10]) (by kernel_rfl) (by simp) ?_
        refine AllReadyH.cons (o := { dst := some 106, op := .call { callee := .value (.func 25), args := #[.tmp 105], argTypes := _ }, type := _, pos := _, after := _, guard := none }) rfl (fun K0 hK => ?_) AllReadyH.nil
        go_simp
        (with_reducible refine (HCl.out _).mono ?_)
        rintro e z1 ⟨rfl, b1⟩
        have J1 := J0.below b1
        have HO6 := hid (OX.trans HO5.out (OX.of b1))
        clear b1
        refine hK.out _ _ ⟨J1.c0, J1.c1⟩ (fun _ => ?_)
        clear hK
        try simp only [Act.put, zA8, zB8, zC8]
        refine wpAnyH_ready (rs := [11]) (by kernel_rfl) (by simp) ?_
        refine AllReadyH.cons (o := { dst := some 107, op := .call { callee := .value (.func 86), args := #[.tmp 106], argTypes := _ }, type := _, pos := _, after := _, guard := none }) rfl (fun K0 hK => ?_) AllReadyH.nil
        go_simp
        (with_reducible refine (HCr.out _).mono ?_)
        rintro e z2 ⟨rfl, b2⟩
        have J2 := J1.below b2
        have HO7 := hid (OX.trans HO6.out (OX.of b2))
        clear b2
        refine hK.out _ _ ⟨J2.c0, J2.c1⟩ (fun _ => ?_)
        clear hK
        try simp only [Act.put, zA8, zB8, zC8]
        refine wpAnyH_take (i := 12) (v := .tuple #[.string (bs q5), .bool b5]) rfl (by kernel_rfl) (by kernel_rfl) (by kernel_rfl) (fun _ _ _ h => h) (Or.inl ⟨by rfl, by intro w hSw; clear hSw; go_simp⟩) (⟨J2.c0, J2.c1⟩) ?_
        change wpAnyH _ _ _ _ _ _ _ (Act.put _ (some 95) _) _
        try simp only [Act.put, zA8, zB8, zC8]
        refine wpAnyH_take (i := 13) (v := .string (bs q5)) rfl (by kernel_rfl) (by kernel_rfl) (by kernel_rfl) (fun _ _ _ h => h) (Or.inl ⟨by rfl, by intro w hSw; clear hSw; go_simp⟩) (⟨J2.c0, J2.c1⟩) ?_
        change wpAnyH _ _ _ _ _ _ _ (Act.put _ (some 108) _) _
        try simp only [Act.put, zA8, zB8, zC8]
        refine wpAnyH_take (i := 14) (v := .bool b5) rfl (by kernel_rfl) (by kernel_rfl) (by kernel_rfl) (fun _ _ _ h => h) (Or.inl ⟨by rfl, by intro w hSw; clear hSw; go_simp⟩) (⟨J2.c0, J2.c1⟩) ?_
        change wpAnyH _ _ _ _ _ _ _ (Act.put _ (some 109) _) _
        try simp only [Act.put, zA8, zB8, zC8]
        refine wpAnyH_take (i := 15) (v := .string (bs q5)) rfl (by kernel_rfl) (by kernel_rfl) (by kernel_rfl) (fun _ _ _ h => h) (Or.inl ⟨by rfl, by intro w hSw; clear hSw; go_simp⟩) (⟨J2.c0, J2.c1⟩) ?_
        change wpAnyH _ _ _ _ _ _ _ (Act.put _ (some 16) _) _
        try simp only [Act.put, zA8, zB8, zC8]
        refine wpAnyH_take (i := 16) (v := .bool b5) rfl (by kernel_rfl) (by kernel_rfl) (by kernel_rfl) (fun _ _ _ h => h) (Or.inl ⟨by rfl, by intro w hSw; clear hSw; go_simp⟩) (⟨J2.c0, J2.c1⟩) ?_
        change wpAnyH _ _ _ _ _ _ _ (Act.put _ (some 12) _) _
        try simp only [Act.put, zA8, zB8, zC8]
        refine wpAnyH_done (by kernel_rfl) ?_ _
        have c0 := J2.c0
        have c1 := J2.c1
        have HJ2 := hid J2
        clear J0 J1 J2
        cases b5 with
        | false =>
         have HF := hid (HF0.out rfl)
         go_wp2
         go_quiet (fail)
         have HO8 := hid (HO7.out.drewN nq)
         go_wp2
         go_ret
         exact PcO.bad HF.out (by decide) (OX.pf HO8.out)
        | true =>
         have HF := hid (HF1.out rfl)
         go_wp2
         go_quiet (fail)
         obtain ⟨Y, hY⟩ : ∃ Y, Y = z2.drewN nq := ⟨_, rfl⟩
         rw [← hY]
         have hTY : TS X s j Y := by rw [hY]; exact HJ2.out.drewN nq
         have HOY : Hid (OX X w Y) := hid (by rw [hY]; exact HO7.out.drewN nq)
         have HC9 := hid (HADD.out Y _ _ q5 (HH0.out.ox HOY.out hXB) HQL.out)
         have HTY := hid (TL.of hTY (by rw [HN.out]; exact hjn))
         clear hY hTY c0 c1
         go_wp2_with fail
         refine HC9.out.mono ?_
         rintro e w9 ⟨rfl, o9, kv9, cs9, H9⟩
         have HO9 := hid (PF.trans (OX.pf (N := N) HOY.out) (PF.of o9))
         have HT9 := hid (HTY.out.off o9 (fun e => by omega))
         have HN9 := hid H9
         clear o9 H9
         go_wp2
         go_ret
         exact PcO.good HF.out HO9.out HT9.out HN9.out HE.out
      ·obtain rfl : n = j := by omega
       have hdk : decide ((n : Int) < (n : Int)) = false := decide_eq_false (by omega)
       have HRU : Hid (r.takeWhile ltN = r.take (n - k) ∧ r.dropWhile ltN = []) := hid (by
        obtain ⟨h1, h2, h3⟩ := HI.out
        have e : s.drop n = [] := List.drop_of_length_le (by rw [HN.out]; exact Nat.le_refl _)
        exact ⟨by rw [h1, e, List.takeWhile_nil, List.append_nil], by rw [h2, e, List.dropWhile_nil]⟩)
       have HFX : Hid (o = .error 70) := hid (by rw [HQ3.out, text_split, if_pos (.inr HRU.out.2)])
       have hq1 : ((n : Int) == (n : Int)) = true := by simp
       clear HI
       go_wp2
       go_quiet (fail)
       obtain ⟨Z, hZ⟩ : ∃ Z, Z = wr.drewN nq := ⟨_, rfl⟩
       rw [← hZ]
       have hTZ : TS X s n Z := by rw [hZ]; exact HT.out.drewN nq
       have HOZ : Hid (OX X w Z) := hid (by rw [hZ]; exact HO.out.drewN nq)
       have hsl := HSL2.out n hkj hjn
       obtain ⟨run, hrun⟩ : ∃ x, (s.drop k).take (n - k) = x := ⟨_, rfl⟩
       rw [hrun] at hsl
       have hrl : run.length ≤ r.length := by rw [← hrun, HR0.out, List.length_take]; omega
       have hll := lines_le run
       have hpo := HPOT.out
       have hkr := HKR.out
       have HCl := hid (fun W => HLN.out run (by omega) W)
       have HCr := hid (fun W => HRF.out (linesL run) (by omega) W)
       have hrfl := refs_le (linesL run)
       have HRN : Hid (r.take (n - k) = run) := hid (by rw [← HR0.out]; exact hrun)
       obtain ⟨rf, hrf⟩ : ∃ x, refsL (linesL run) = x := ⟨_, rfl⟩
       rw [hrf] at HCr hrfl
       obtain ⟨q5, hq5⟩ : ∃ x, rf.getD [] = x := ⟨_, rfl⟩
       obtain ⟨b5, hb5⟩ : ∃ x, rf.isSome = x := ⟨_, rfl⟩
       rw [hq5, hb5] at HCr
       have i1' : (0 : Int) ≤ (k : Int) := by omega
       have i2' : (k : Int) ≤ (n : Int) := by omega
       have i3' : (n : Int) ≤ (n : Int) := by omega
       have HFX2 := hid HFX.out
       clear hZ c0 c1 hrun hrl hll hpo hkr hrfl hrf hq5 hb5 HFX HRU
       go_wp2
       have bd : Below Z.heap.size Z Z.drew := below_drewN (Below.refl _ _) 1
       have J0 := hTZ.below bd
       have HO5 := hid (OX.trans HOZ.out (OX.of bd))
       refine wp_region_held_drew (S := fun W => W.cell? ⟨X, 0, none⟩ = some (.string (bs s)) ∧ W.cell? ⟨X, 1, none⟩ = some (.int .i64 n)) (by kernel_rfl) ⟨J0.c0, J0.c1⟩ (fun _ => ?_)
       clear bd
       generalize Z.drew = z0 at *
       refine wpAnyH_take (i := 0) (v := .pointer (some ⟨X, 0, none⟩)) rfl (by kernel_rfl) (by kernel_rfl) (by kernel_rfl) (fun _ _ _ h => h) (Or.inl ⟨by rfl, by intro w hSw; clear hSw; go_simp⟩) (⟨J0.c0, J0.c1⟩) ?_
       change wpAnyH _ _ _ _ _ _ _ (Act.put _ (some 96) _) _
       try simp only [Act.put, zA8, zB8, zC8]
       refine wpAnyH_take (i := 1) (v := .pointer (some ⟨X, 0, none⟩)) rfl (by kernel_rfl) (by kernel_rfl) (by kernel_rfl) (fun _ _ _ h => h) (Or.inl ⟨by rfl, by intro w hSw; clear hSw; go_simp⟩) (⟨J0.c0, J0.c1⟩) ?_
       change wpAnyH _ _ _ _ _ _ _ (Act.put _ (some 97) _) _
       try simp only [Act.put, zA8, zB8, zC8]
       refine wpAnyH_take (i := 2) (v := .pointer (some ⟨X, 0, none⟩)) rfl (by kernel_rfl) (by kernel_rfl) (by kernel_rfl) (fun _ _ _ h => h) (Or.inl ⟨by rfl, by intro w hSw; clear hSw; go_simp⟩) (⟨J0.c0, J0.c1⟩) ?_
       change wpAnyH _ _ _ _ _ _ _ (Act.put _ (some 98) _) _
       try simp only [Act.put, zA8, zB8, zC8]
       refine wpAnyH_take (i := 3) (v := .string (bs s)) rfl (by kernel_rfl) (by kernel_rfl) (by kernel_rfl) (fun _ _ _ h => h) (Or.inl ⟨by rfl, by intro w hSw; (try dsimp only at hSw); go_simp⟩) (⟨J0.c0, J0.c1⟩) ?_
       change wpAnyH _ _ _ _ _ _ _ (Act.put _ (some 99) _) _
       try simp only [Act.put, zA8, zB8, zC8]
       refine wpAnyH_take (i := 4) (v := .int .i64 k) rfl (by kernel_rfl) (by kernel_rfl) (by kernel_rfl) (fun _ _ _ h => h) (Or.inl ⟨by rfl, by intro w hSw; clear hSw; go_simp⟩) (⟨J0.c0, J0.c1⟩) ?_
       change wpAnyH _ _ _ _ _ _ _ (Act.put _ (some 100) _) _
       try simp only [Act.put, zA8, zB8, zC8]
       refine wpAnyH_take (i := 5) (v := .pointer (some ⟨X, 0, none⟩)) rfl (by kernel_rfl) (by kernel_rfl) (by kernel_rfl) (fun _ _ _ h => h) (Or.inl ⟨by rfl, by intro w hSw; clear hSw; go_simp⟩) (⟨J0.c0, J0.c1⟩) ?_
       change wpAnyH _ _ _ _ _ _ _ (Act.put _ (some 101) _) _
       try simp only [Act.put, zA8, zB8, zC8]
       refine wpAnyH_take (i := 6) (v := .pointer (some ⟨X, 0, none⟩)) rfl (by kernel_rfl) (by kernel_rfl) (by kernel_rfl) (fun _ _ _ h => h) (Or.inl ⟨by rfl, by intro w hSw; clear hSw; go_simp⟩) (⟨J0.c0, J0.c1⟩) ?_
       change wpAnyH _ _ _ _ _ _ _ (Act.put _ (some 102) _) _
       try simp only [Act.put, zA8, zB8, zC8]
       refine wpAnyH_take (i := 7) (v := .pointer (some ⟨X, 1, none⟩)) rfl (by kernel_rfl) (by kernel_rfl) (by kernel_rfl) (fun _ _ _ h => h) (Or.inl ⟨by rfl, by intro w hSw; clear hSw; go_simp⟩) (⟨J0.c0, J0.c1⟩) ?_
       change wpAnyH _ _ _ _ _ _ _ (Act.put _ (some 103) _) _
       try simp only [Act.put, zA8, zB8, zC8]
       refine wpAnyH_take (i := 8) (v := .int .i64 n) rfl (by kernel_rfl) (by kernel_rfl) (by kernel_rfl) (fun _ _ _ h => h) (Or.inl ⟨by rfl, by intro w hSw; (try dsimp only at hSw); go_simp⟩) (⟨J0.c0, J0.c1⟩) ?_
       change wpAnyH _ _ _ _ _ _ _ (Act.put _ (some 104) _) _
       try simp only [Act.put, zA8, zB8, zC8]
       refine wpAnyH_take (i := 9) (v := .string (bs run)) rfl (by kernel_rfl) (by kernel_rfl) (by kernel_rfl) (fun _ _ _ h => h) (Or.inl ⟨by rfl, by intro w hSw; clear hSw; go_simp⟩) (⟨J0.c0, J0.c1⟩) ?_
       change wpAnyH _ _ _ _ _ _ _ (Act.put _ (some 105) _) _
       try simp only [Act.put, zA8, zB8, zC8]
       refine wpAnyH_ready (rs := [10]) (by kernel_rfl) (by simp) ?_
       refine AllReadyH.cons (o := { dst := some 106, op := .call { callee := .value (.func 25), args := #[.tmp 105], argTypes := _ }, type := _, pos := _, after := _, guard := none }) rfl (fun K0 hK => ?_) AllReadyH.nil
       go_simp
       (with_reducible refine (HCl.out _).mono ?_)
       rintro e z1 ⟨rfl, b1⟩
       have J1 := J0.below b1
       have HO6 := hid (OX.trans HO5.out (OX.of b1))
       clear b1
       refine hK.out _ _ ⟨J1.c0, J1.c1⟩ (fun _ => ?_)
       clear hK
       try simp only [Act.put, zA8, zB8, zC8]
       refine wpAnyH_ready (rs := [11]) (by kernel_rfl) (by simp) ?_
       refine AllReadyH.cons (o := { dst := some 107, op := .call { callee := .value (.func 86), args := #[.tmp 106], argTypes := _ }, type := _, pos := _, after := _, guard := none }) rfl (fun K0 hK => ?_) AllReadyH.nil
       go_simp
       (with_reducible refine (HCr.out _).mono ?_)
       rintro e z2 ⟨rfl, b2⟩
       have J2 := J1.below b2
       have HO7 := hid (OX.trans HO6.out (OX.of b2))
       clear b2
       refine hK.out _ _ ⟨J2.c0, J2.c1⟩ (fun _ => ?_)
       clear hK
       try simp only [Act.put, zA8, zB8, zC8]
       refine wpAnyH_take (i := 12) (v := .tuple #[.string (bs q5), .bool b5]) rfl (by kernel_rfl) (by kernel_rfl) (by kernel_rfl) (fun _ _ _ h => h) (Or.inl ⟨by rfl, by intro w hSw; clear hSw; go_simp⟩) (⟨J2.c0, J2.c1⟩) ?_
       change wpAnyH _ _ _ _ _ _ _ (Act.put _ (some 95) _) _
       try simp only [Act.put, zA8, zB8, zC8]
       refine wpAnyH_take (i := 13) (v := .string (bs q5)) rfl (by kernel_rfl) (by kernel_rfl) (by kernel_rfl) (fun _ _ _ h => h) (Or.inl ⟨by rfl, by intro w hSw; clear hSw; go_simp⟩) (⟨J2.c0, J2.c1⟩) ?_
       change wpAnyH _ _ _ _ _ _ _ (Act.put _ (some 108) _) _
       try simp only [Act.put, zA8, zB8, zC8]
       refine wpAnyH_take (i := 14) (v := .bool b5) rfl (by kernel_rfl) (by kernel_rfl) (by kernel_rfl) (fun _ _ _ h => h) (Or.inl ⟨by rfl, by intro w hSw; clear hSw; go_simp⟩) (⟨J2.c0, J2.c1⟩) ?_
       change wpAnyH _ _ _ _ _ _ _ (Act.put _ (some 109) _) _
       try simp only [Act.put, zA8, zB8, zC8]
       refine wpAnyH_take (i := 15) (v := .string (bs q5)) rfl (by kernel_rfl) (by kernel_rfl) (by kernel_rfl) (fun _ _ _ h => h) (Or.inl ⟨by rfl, by intro w hSw; clear hSw; go_simp⟩) (⟨J2.c0, J2.c1⟩) ?_
       change wpAnyH _ _ _ _ _ _ _ (Act.put _ (some 16) _) _
       try simp only [Act.put, zA8, zB8, zC8]
       refine wpAnyH_take (i := 16) (v := .bool b5) rfl (by kernel_rfl) (by kernel_rfl) (by kernel_rfl) (fun _ _ _ h => h) (Or.inl ⟨by rfl, by intro w hSw; clear hSw; go_simp⟩) (⟨J2.c0, J2.c1⟩) ?_
       change wpAnyH _ _ _ _ _ _ _ (Act.put _ (some 12) _) _
       try simp only [Act.put, zA8, zB8, zC8]
       refine wpAnyH_done (by kernel_rfl) ?_ _
       have c0 := J2.c0
       have c1 := J2.c1
       have HJ2 := hid J2
       clear J0 J1 J2
       cases b5 with
       | false =>
        have HF := hid HFX2.out
        go_wp2
        go_quiet (fail)
        have HO8 := hid (HO7.out.drewN nq)
        go_wp2
        go_ret
        exact PcO.bad HF.out (by decide) (OX.pf HO8.out)
       | true =>
        have HF := hid HFX2.out
        go_wp2
        go_quiet (fail)
        have HO8 := hid (HO7.out.drewN nq)
        go_wp2
        go_ret
        exact PcO.bad HF.out (by decide) (OX.pf HO8.out)
end Go.Proofs.YtklcjimmbkpbdaaGreatDoor
