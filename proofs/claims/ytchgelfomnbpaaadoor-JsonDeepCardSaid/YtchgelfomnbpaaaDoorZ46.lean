/-
  The document's value of JSON, where no bracket opens it. Conditions: modest lengths.
-/
import Derived.Test.YtchgelfomnbpaaaDoorZ39
import Derived.Test.YtchgelfomnbpaaaDoorZ45
import Derived.StillTailTactics
import Derived.Deep.QuietTactic
import Derived.BigQuiet
namespace Go.Proofs.YtchgelfomnbpaaaDoor
open Go.RowKit
open Go.Lib

theorem unj_has : UnjHas := fun a W ha => by
  have h := runjson_any (bs (34 :: a ++ [34])) W (by rw [bs_size]; simp; omega)
  rw [bs_list, unjson_q] at h
  refine h.mono (fun e w' h => ?_)
  unfold UnjR at h
  cases hu : unjq a with
  | none => rw [hu] at h; exact h
  | some x => rw [hu] at h; exact h
/-- What the document's value answers. -/
def DOut (X d : Nat) (s : Bt) (k : Nat) (w0 : World) (e : Ending) (w' : World) : Prop := Off (fun b => b = X) w0 w' ∧
  ((∃ v x k', valX d (s.drop k) = .ok (v, s.drop k') ∧ k' ≤ s.length ∧ e = .returned (.tuple #[x, .int .i64 0]) ∧ JR w' (fun b => w0.heap.size ≤ b ∧ b < w'.heap.size) v x ∧ TS X s k' w') ∨
   (∃ z, valX d (s.drop k) = .error z ∧ z ≠ 0 ∧ e = .returned (.tuple #[zeroJ, .int .i64 z])))
abbrev DArgs (X : Nat) (d : Nat) : Array Value := #[.pointer (some ⟨X, 0, none⟩), .int .i64 d]
theorem TS.lt {X : Nat} {s : Bt} {k : Nat} {w : World} (h : TS X s k w) : X < w.heap.size := Blk.lt h
theorem TS.off {X : Nat} {s : Bt} {k : Nat} {w w' : World} {F : Nat → Prop} (h : TS X s k w) (ho : Off F w w') (hF : ¬ F X) : TS X s k w' := ho.blk h hF
theorem next_is {s : Bt} {k : Nat} {d : UInt8} (hd : d ≠ 0) : (nextZ s k == (d.toNat : Int)) = decide ((s.drop k).head? = some d) := by
  unfold nextZ
  cases h : s.drop k with
  | nil =>
    show ((0 : Int) == (d.toNat : Int)) = decide ((none : Option UInt8) = some d)
    rw [decide_eq_false (by simp), beq_eq_false_iff_ne]
    intro e
    have : d.toNat = (0 : UInt8).toNat := by show d.toNat = 0; omega
    exact hd (UInt8.toNat_inj.1 this)
  | cons c t =>
    show ((c.toNat : Int) == (d.toNat : Int)) = decide (some c = some d)
    by_cases e : c = d
    · rw [e]; simp
    · rw [decide_eq_false (fun h => e (Option.some.inj h)), beq_eq_false_iff_ne]
      intro h
      exact e (UInt8.toNat_inj.1 (by omega))
def AsksT (X : Nat) (s : Bt) (k : Nat) (wd : ByteArray) (ob : Bool) (r : Nat) : Prop := ∀ W, TS X s k W → Calls Tryd.prog 37 #[.pointer (some ⟨X, 0, none⟩), .string wd] W fun e w' => e = .returned (.bool ob) ∧ TS X s r w' ∧ Off (fun b => b = X) W w'
theorem askst {X : Nat} {s : Bt} {k : Nat} (hk : k ≤ s.length) (hs : s.length ≤ 100000) (wd : Bt) (hw : wd.length ≤ 1000) (ob : Bool) (h : wd.isPrefixOf (s.drop k) = ob) : AsksT X s k (bs wd) ob (if ob then k + wd.length else k) := fun _ hW => tword_any hW hk (by omega) wd hw ob h
set_option maxRecDepth 100000 in
set_option maxHeartbeats 4000000 in
theorem dval_null {X d k : Nat} {s t : Bt} {w : World} (h : TS X s k w) (hk : k ≤ s.length) (ht : blanksL (s.drop k) = t) (hs : s.length ≤ 100000) (y : List.isPrefixOf [110, 117, 108, 108] t = true) :
    Calls Tryd.prog 23 (DArgs X d) w (DOut X d s k w) := by
  have hR : JZ w.heap.size (w.alloc (.cells #[.int .i64 0, .string ⟨#[]⟩, .slice none 0 0, .slice none 0 0] 28)) := Blk.new _ w
  have HXL := Lib.hid h.lt
  have h0 : TS X s k (w.alloc (.cells #[.int .i64 0, .string ⟨#[]⟩, .slice none 0 0, .slice none 0 0] 28)) := h.below ((Below.refl _ _).alloc (Nat.le_refl _) _)
  have HBL := Lib.hid (tblanks_any h0 hk (by omega))
  have HR := Lib.hid hR
  have HT := Lib.hid ht
  have HS := Lib.hid hs
  have HY := Lib.hid y
  have HYL := Lib.hid (prefix_len y)
  clear y
  clear h h0 hR ht hk hs
  go_enter Tryd.func23, Tryd.ntmps23
  go_wp2_with fail
  refine HBL.out.mono ?_
  clear HBL
  rintro e w1 ⟨rfl, k1, _, hk1, hd1, h1, o1⟩
  rw [HT.out] at hd1
  have HNX := Lib.hid (tnext_any h1 hk1)
  obtain ⟨z, hz⟩ : ∃ z, nextZ s k1 = z := ⟨_, rfl⟩
  rw [hz] at HNX
  have HZ : Hid (∀ d : UInt8, d ≠ 0 → (z == (d.toNat : Int)) = decide (t.head? = some d)) := Lib.hid (fun d hd => by rw [← hz, next_is hd, hd1])
  have HO1 := Lib.hid o1
  have H1 := Lib.hid h1
  have HK1 := Lib.hid hk1
  have HD1 := Lib.hid hd1
  clear hz hk1 hd1 h1 o1
  go_wp2_with fail
  refine HNX.out.mono ?_
  clear HNX
  rintro e w2 ⟨rfl, b2⟩
  have HO2 := Lib.hid (HO1.out.trans (Off.of_below b2) (fun _ h => h.elim))
  have H2 := Lib.hid (H1.out.below b2)
  clear b2 HO1 H1
  have Kn := Lib.hid (askst (X := X) HK1.out HS.out [110, 117, 108, 108] (by decide) true (by rw [HD1.out]; exact HY.out))
  go_wp2_with fail
  refine (Kn.out _ H2.out).mono ?_
  rintro e w3 ⟨rfl, h3, o3⟩
  have HO3 := Lib.hid (HO2.out.trans o3 (fun _ h => .inl h))
  have H3 : Hid (TS X s (k1 + 4) w3) := Lib.hid h3
  clear h3 o3 Kn H2 HO2
  have HLT : Hid (k1 + 4 ≤ s.length) := Lib.hid (by have h1 := HYL.out; have h2 := congrArg List.length HD1.out; rw [List.length_drop] at h2; simp only [List.length_cons, List.length_nil] at h1; have := HK1.out; omega)
  have hRk := HR.out.off HO3.out (fun e => by have := HXL.out; omega)
  go_wp2_with (guard_target =~ Go.wpList _ _ _ ({ dst := none, op := Go.Op.store 28 _ _, type := _, pos := _, after := _, guard := none } :: _) _ _; refine st4 rfl rfl ⟨rfl, rfl, rfl, rfl⟩ hRk ?_)
  intro wz hz oz
  have HO := Lib.hid (off_res HXL.out HO3.out oz)
  have HTZ := Lib.hid (H3.out.off oz (fun e => by have := HXL.out; omega))
  clear hRk oz
  go_wp2
  exact bodyPost_ret (by simp [results, Tryd.results23, go_sem, J4.c0 hz, J4.c1 hz, J4.c2 hz, J4.c3 hz]) rfl ⟨HO.out, .inl ⟨.mk 0 [] [] [], _, k1 + 4, by rw [← List.drop_drop, HD1.out]; exact valX_null HT.out HY.out, HLT.out, rfl, jr_nil _ _ 0, HTZ.out⟩⟩
set_option maxRecDepth 100000 in
set_option maxHeartbeats 4000000 in
theorem dval_false {X d k : Nat} {s t : Bt} {w : World} (h : TS X s k w) (hk : k ≤ s.length) (ht : blanksL (s.drop k) = t) (hs : s.length ≤ 100000) (y : List.isPrefixOf [102, 97, 108, 115, 101] t = true) :
    Calls Tryd.prog 23 (DArgs X d) w (DOut X d s k w) := by
  have hR : JZ w.heap.size (w.alloc (.cells #[.int .i64 0, .string ⟨#[]⟩, .slice none 0 0, .slice none 0 0] 28)) := Blk.new _ w
  have HXL := Lib.hid h.lt
  have h0 : TS X s k (w.alloc (.cells #[.int .i64 0, .string ⟨#[]⟩, .slice none 0 0, .slice none 0 0] 28)) := h.below ((Below.refl _ _).alloc (Nat.le_refl _) _)
  have HBL := Lib.hid (tblanks_any h0 hk (by omega))
  have HR := Lib.hid hR
  have HT := Lib.hid ht
  have HS := Lib.hid hs
  have HY := Lib.hid y
  have HYL := Lib.hid (prefix_len y)
  have nn : List.isPrefixOf [110, 117, 108, 108] t = false := wpre_not y (by decide) _
  have HNn := Lib.hid nn
  clear nn
  clear y
  clear h h0 hR ht hk hs
  go_enter Tryd.func23, Tryd.ntmps23
  go_wp2_with fail
  refine HBL.out.mono ?_
  clear HBL
  rintro e w1 ⟨rfl, k1, _, hk1, hd1, h1, o1⟩
  rw [HT.out] at hd1
  have HNX := Lib.hid (tnext_any h1 hk1)
  obtain ⟨z, hz⟩ : ∃ z, nextZ s k1 = z := ⟨_, rfl⟩
  rw [hz] at HNX
  have HZ : Hid (∀ d : UInt8, d ≠ 0 → (z == (d.toNat : Int)) = decide (t.head? = some d)) := Lib.hid (fun d hd => by rw [← hz, next_is hd, hd1])
  have HO1 := Lib.hid o1
  have H1 := Lib.hid h1
  have HK1 := Lib.hid hk1
  have HD1 := Lib.hid hd1
  clear hz hk1 hd1 h1 o1
  go_wp2_with fail
  refine HNX.out.mono ?_
  clear HNX
  rintro e w2 ⟨rfl, b2⟩
  have HO2 := Lib.hid (HO1.out.trans (Off.of_below b2) (fun _ h => h.elim))
  have H2 := Lib.hid (H1.out.below b2)
  clear b2 HO1 H1
  have Kn := Lib.hid (askst (X := X) HK1.out HS.out [110, 117, 108, 108] (by decide) false (by rw [HD1.out]; exact HNn.out))
  go_wp2_with fail
  refine (Kn.out _ H2.out).mono ?_
  rintro e w3 ⟨rfl, h3, o3⟩
  have HO3 := Lib.hid (HO2.out.trans o3 (fun _ h => .inl h))
  have H3 : Hid (TS X s k1 w3) := Lib.hid h3
  clear h3 o3 Kn H2 HO2
  have Kf := Lib.hid (askst (X := X) HK1.out HS.out [102, 97, 108, 115, 101] (by decide) true (by rw [HD1.out]; exact HY.out))
  go_wp2_with fail
  refine (Kf.out _ H3.out).mono ?_
  rintro e w4 ⟨rfl, h4, o4⟩
  have HO4 := Lib.hid (HO3.out.trans o4 (fun _ h => .inl h))
  have H4 : Hid (TS X s (k1 + 5) w4) := Lib.hid h4
  clear h4 o4 Kf H3 HO3
  have HLT : Hid (k1 + 5 ≤ s.length) := Lib.hid (by have h1 := HYL.out; have h2 := congrArg List.length HD1.out; rw [List.length_drop] at h2; simp only [List.length_cons, List.length_nil] at h1; have := HK1.out; omega)
  have hRk := HR.out.off HO4.out (fun e => by have := HXL.out; omega)
  go_wp2_with (guard_target =~ Go.wpList _ _ _ ({ dst := none, op := Go.Op.store 28 _ _, type := _, pos := _, after := _, guard := none } :: _) _ _; refine st4 rfl rfl ⟨rfl, rfl, rfl, rfl⟩ hRk ?_)
  intro wz hz oz
  have HO := Lib.hid (off_res HXL.out HO4.out oz)
  have HTZ := Lib.hid (H4.out.off oz (fun e => by have := HXL.out; omega))
  clear hRk oz
  go_wp2
  exact bodyPost_ret (by simp [results, Tryd.results23, go_sem, J4.c0 hz, J4.c1 hz, J4.c2 hz, J4.c3 hz]) rfl ⟨HO.out, .inl ⟨.mk 1 [] [] [], _, k1 + 5, by rw [← List.drop_drop, HD1.out]; exact valX_false HT.out HNn.out HY.out, HLT.out, rfl, jr_nil _ _ 1, HTZ.out⟩⟩
set_option maxRecDepth 100000 in
set_option maxHeartbeats 4000000 in
theorem dval_true {X d k : Nat} {s t : Bt} {w : World} (h : TS X s k w) (hk : k ≤ s.length) (ht : blanksL (s.drop k) = t) (hs : s.length ≤ 100000) (y : List.isPrefixOf [116, 114, 117, 101] t = true) :
    Calls Tryd.prog 23 (DArgs X d) w (DOut X d s k w) := by
  have hR : JZ w.heap.size (w.alloc (.cells #[.int .i64 0, .string ⟨#[]⟩, .slice none 0 0, .slice none 0 0] 28)) := Blk.new _ w
  have HXL := Lib.hid h.lt
  have h0 : TS X s k (w.alloc (.cells #[.int .i64 0, .string ⟨#[]⟩, .slice none 0 0, .slice none 0 0] 28)) := h.below ((Below.refl _ _).alloc (Nat.le_refl _) _)
  have HBL := Lib.hid (tblanks_any h0 hk (by omega))
  have HR := Lib.hid hR
  have HT := Lib.hid ht
  have HS := Lib.hid hs
  have HY := Lib.hid y
  have HYL := Lib.hid (prefix_len y)
  have nn : List.isPrefixOf [110, 117, 108, 108] t = false := wpre_not y (by decide) _
  have HNn := Lib.hid nn
  clear nn
  have nf : List.isPrefixOf [102, 97, 108, 115, 101] t = false := wpre_not y (by decide) _
  have HNf := Lib.hid nf
  clear nf
  clear y
  clear h h0 hR ht hk hs
  go_enter Tryd.func23, Tryd.ntmps23
  go_wp2_with fail
  refine HBL.out.mono ?_
  clear HBL
  rintro e w1 ⟨rfl, k1, _, hk1, hd1, h1, o1⟩
  rw [HT.out] at hd1
  have HNX := Lib.hid (tnext_any h1 hk1)
  obtain ⟨z, hz⟩ : ∃ z, nextZ s k1 = z := ⟨_, rfl⟩
  rw [hz] at HNX
  have HZ : Hid (∀ d : UInt8, d ≠ 0 → (z == (d.toNat : Int)) = decide (t.head? = some d)) := Lib.hid (fun d hd => by rw [← hz, next_is hd, hd1])
  have HO1 := Lib.hid o1
  have H1 := Lib.hid h1
  have HK1 := Lib.hid hk1
  have HD1 := Lib.hid hd1
  clear hz hk1 hd1 h1 o1
  go_wp2_with fail
  refine HNX.out.mono ?_
  clear HNX
  rintro e w2 ⟨rfl, b2⟩
  have HO2 := Lib.hid (HO1.out.trans (Off.of_below b2) (fun _ h => h.elim))
  have H2 := Lib.hid (H1.out.below b2)
  clear b2 HO1 H1
  have Kn := Lib.hid (askst (X := X) HK1.out HS.out [110, 117, 108, 108] (by decide) false (by rw [HD1.out]; exact HNn.out))
  go_wp2_with fail
  refine (Kn.out _ H2.out).mono ?_
  rintro e w3 ⟨rfl, h3, o3⟩
  have HO3 := Lib.hid (HO2.out.trans o3 (fun _ h => .inl h))
  have H3 : Hid (TS X s k1 w3) := Lib.hid h3
  clear h3 o3 Kn H2 HO2
  have Kf := Lib.hid (askst (X := X) HK1.out HS.out [102, 97, 108, 115, 101] (by decide) false (by rw [HD1.out]; exact HNf.out))
  go_wp2_with fail
  refine (Kf.out _ H3.out).mono ?_
  rintro e w4 ⟨rfl, h4, o4⟩
  have HO4 := Lib.hid (HO3.out.trans o4 (fun _ h => .inl h))
  have H4 : Hid (TS X s k1 w4) := Lib.hid h4
  clear h4 o4 Kf H3 HO3
  have Kt := Lib.hid (askst (X := X) HK1.out HS.out [116, 114, 117, 101] (by decide) true (by rw [HD1.out]; exact HY.out))
  go_wp2_with fail
  refine (Kt.out _ H4.out).mono ?_
  rintro e w5 ⟨rfl, h5, o5⟩
  have HO5 := Lib.hid (HO4.out.trans o5 (fun _ h => .inl h))
  have H5 : Hid (TS X s (k1 + 4) w5) := Lib.hid h5
  clear h5 o5 Kt H4 HO4
  have HLT : Hid (k1 + 4 ≤ s.length) := Lib.hid (by have h1 := HYL.out; have h2 := congrArg List.length HD1.out; rw [List.length_drop] at h2; simp only [List.length_cons, List.length_nil] at h1; have := HK1.out; omega)
  have hRk := HR.out.off HO5.out (fun e => by have := HXL.out; omega)
  go_wp2_with (guard_target =~ Go.wpList _ _ _ ({ dst := none, op := Go.Op.store 28 _ _, type := _, pos := _, after := _, guard := none } :: _) _ _; refine st4 rfl rfl ⟨rfl, rfl, rfl, rfl⟩ hRk ?_)
  intro wz hz oz
  have HO := Lib.hid (off_res HXL.out HO5.out oz)
  have HTZ := Lib.hid (H5.out.off oz (fun e => by have := HXL.out; omega))
  clear hRk oz
  go_wp2
  exact bodyPost_ret (by simp [results, Tryd.results23, go_sem, J4.c0 hz, J4.c1 hz, J4.c2 hz, J4.c3 hz]) rfl ⟨HO.out, .inl ⟨.mk 2 [] [] [], _, k1 + 4, by rw [← List.drop_drop, HD1.out]; exact valX_true HT.out HNn.out HNf.out HY.out, HLT.out, rfl, jr_nil _ _ 2, HTZ.out⟩⟩
set_option maxRecDepth 100000 in
set_option maxHeartbeats 4000000 in
theorem dval_text {X d k : Nat} {s t : Bt} {w : World} (h : TS X s k w) (hk : k ≤ s.length) (ht : blanksL (s.drop k) = t) (hs : s.length ≤ 100000) (hb : Bare t) (h34 : t.head? = some 34) :
    Calls Tryd.prog 23 (DArgs X d) w (DOut X d s k w) := by
  have hR : JZ w.heap.size (w.alloc (.cells #[.int .i64 0, .string ⟨#[]⟩, .slice none 0 0, .slice none 0 0] 28)) := Blk.new _ w
  have HXL := Lib.hid h.lt
  have h0 : TS X s k (w.alloc (.cells #[.int .i64 0, .string ⟨#[]⟩, .slice none 0 0, .slice none 0 0] 28)) := h.below ((Below.refl _ _).alloc (Nat.le_refl _) _)
  have HBL := Lib.hid (tblanks_any h0 hk (by omega))
  have HR := Lib.hid hR
  have HT := Lib.hid ht
  have HS := Lib.hid hs
  have HB := Lib.hid hb
  have H34 := Lib.hid h34
  clear h34 hb
  clear h h0 hR ht hk hs
  go_enter Tryd.func23, Tryd.ntmps23
  go_wp2_with fail
  refine HBL.out.mono ?_
  clear HBL
  rintro e w1 ⟨rfl, k1, _, hk1, hd1, h1, o1⟩
  rw [HT.out] at hd1
  have HNX := Lib.hid (tnext_any h1 hk1)
  obtain ⟨z, hz⟩ : ∃ z, nextZ s k1 = z := ⟨_, rfl⟩
  rw [hz] at HNX
  have HZ : Hid (∀ d : UInt8, d ≠ 0 → (z == (d.toNat : Int)) = decide (t.head? = some d)) := Lib.hid (fun d hd => by rw [← hz, next_is hd, hd1])
  have HO1 := Lib.hid o1
  have H1 := Lib.hid h1
  have HK1 := Lib.hid hk1
  have HD1 := Lib.hid hd1
  clear hz hk1 hd1 h1 o1
  go_wp2_with fail
  refine HNX.out.mono ?_
  clear HNX
  rintro e w2 ⟨rfl, b2⟩
  have HO2 := Lib.hid (HO1.out.trans (Off.of_below b2) (fun _ h => h.elim))
  have H2 := Lib.hid (H1.out.below b2)
  clear b2 HO1 H1
  have Kn := Lib.hid (askst (X := X) HK1.out HS.out [110, 117, 108, 108] (by decide) false (by rw [HD1.out]; exact HB.out.null))
  go_wp2_with fail
  refine (Kn.out _ H2.out).mono ?_
  rintro e w3 ⟨rfl, h3, o3⟩
  have HO3 := Lib.hid (HO2.out.trans o3 (fun _ h => .inl h))
  have H3 : Hid (TS X s k1 w3) := Lib.hid h3
  clear h3 o3 Kn H2 HO2
  have Kf := Lib.hid (askst (X := X) HK1.out HS.out [102, 97, 108, 115, 101] (by decide) false (by rw [HD1.out]; exact HB.out.no))
  go_wp2_with fail
  refine (Kf.out _ H3.out).mono ?_
  rintro e w4 ⟨rfl, h4, o4⟩
  have HO4 := Lib.hid (HO3.out.trans o4 (fun _ h => .inl h))
  have H4 : Hid (TS X s k1 w4) := Lib.hid h4
  clear h4 o4 Kf H3 HO3
  have Kt := Lib.hid (askst (X := X) HK1.out HS.out [116, 114, 117, 101] (by decide) false (by rw [HD1.out]; exact HB.out.yes))
  go_wp2_with fail
  refine (Kt.out _ H4.out).mono ?_
  rintro e w5 ⟨rfl, h5, o5⟩
  have HO5 := Lib.hid (HO4.out.trans o5 (fun _ h => .inl h))
  have H5 : Hid (TS X s k1 w5) := Lib.hid h5
  clear h5 o5 Kt H4 HO4
  have z34 : (z == 34) = true := by rw [show (34 : Int) = ((34 : UInt8).toNat : Int) from rfl, HZ.out 34 (by decide), H34.out]; rfl
  have HTX := Lib.hid (ttext_any unj_has H5.out HK1.out HS.out)
  rw [HD1.out] at HTX
  go_wp2_with fail
  refine HTX.out.mono ?_
  clear HTX z34
  rintro e w6 ⟨x, ok, k6, rfl, hk6, h6, o6, hx⟩
  have HO6 := Lib.hid (HO5.out.trans o6 (fun _ h => .inl h))
  have H6 := Lib.hid h6
  have HK6 := Lib.hid hk6
  clear h6 o6 hk6
  cases ok with
  | true =>
    have HX : Hid (textL t = some (x, s.drop k6)) := Lib.hid hx
    clear hx
    have hRk := HR.out.off HO6.out (fun e => by have := HXL.out; omega)
    go_wp2_with (guard_target =~ Go.wpList _ _ _ ({ dst := none, op := Go.Op.store 28 _ _, type := _, pos := _, after := _, guard := none } :: _) _ _; refine st4 rfl rfl ⟨rfl, rfl, rfl, rfl⟩ hRk ?_)
    intro wz hz oz
    have HO := Lib.hid (off_res HXL.out HO6.out oz)
    have HTZ := Lib.hid (H6.out.off oz (fun e => by have := HXL.out; omega))
    clear hRk oz
    go_wp2
    exact bodyPost_ret (by simp [results, Tryd.results23, go_sem, J4.c0 hz, J4.c1 hz, J4.c2 hz, J4.c3 hz]) rfl ⟨HO.out, .inl ⟨.mk 4 x [] [], _, k6, valX_text HT.out HB.out HX.out, HK6.out, rfl, jr_zero _ _ 4 x, HTZ.out⟩⟩
  | false =>
    have HX : Hid (textL t = none) := Lib.hid hx
    clear hx
    have hRk := HR.out.off HO6.out (fun e => by have := HXL.out; omega)
    go_wp2_with (guard_target =~ Go.wpList _ _ _ ({ dst := none, op := Go.Op.store 28 _ _, type := _, pos := _, after := _, guard := none } :: _) _ _; refine st4 rfl rfl ⟨rfl, rfl, rfl, rfl⟩ hRk ?_)
    intro wz hz oz
    have HO := Lib.hid (off_res HXL.out HO6.out oz)
    clear hRk oz
    go_wp2
    exact bodyPost_ret (by simp [results, Tryd.results23, go_sem, J4.c0 hz, J4.c1 hz, J4.c2 hz, J4.c3 hz]) rfl ⟨HO.out, .inr ⟨70, by rw [valX_bare HT.out HB.out, if_pos H34.out, HX.out], by decide, rfl⟩⟩
set_option maxRecDepth 100000 in
set_option maxHeartbeats 4000000 in
theorem dval_num {X d k : Nat} {s t : Bt} {w : World} (h : TS X s k w) (hk : k ≤ s.length) (ht : blanksL (s.drop k) = t) (hs : s.length ≤ 100000) (hb : Bare t) (h34 : t.head? ≠ some 34) :
    Calls Tryd.prog 23 (DArgs X d) w (DOut X d s k w) := by
  have hR : JZ w.heap.size (w.alloc (.cells #[.int .i64 0, .string ⟨#[]⟩, .slice none 0 0, .slice none 0 0] 28)) := Blk.new _ w
  have HXL := Lib.hid h.lt
  have h0 : TS X s k (w.alloc (.cells #[.int .i64 0, .string ⟨#[]⟩, .slice none 0 0, .slice none 0 0] 28)) := h.below ((Below.refl _ _).alloc (Nat.le_refl _) _)
  have HBL := Lib.hid (tblanks_any h0 hk (by omega))
  have HR := Lib.hid hR
  have HT := Lib.hid ht
  have HS := Lib.hid hs
  have HB := Lib.hid hb
  have H34 := Lib.hid h34
  clear h34 hb
  clear h h0 hR ht hk hs
  go_enter Tryd.func23, Tryd.ntmps23
  go_wp2_with fail
  refine HBL.out.mono ?_
  clear HBL
  rintro e w1 ⟨rfl, k1, _, hk1, hd1, h1, o1⟩
  rw [HT.out] at hd1
  have HNX := Lib.hid (tnext_any h1 hk1)
  obtain ⟨z, hz⟩ : ∃ z, nextZ s k1 = z := ⟨_, rfl⟩
  rw [hz] at HNX
  have HZ : Hid (∀ d : UInt8, d ≠ 0 → (z == (d.toNat : Int)) = decide (t.head? = some d)) := Lib.hid (fun d hd => by rw [← hz, next_is hd, hd1])
  have HO1 := Lib.hid o1
  have H1 := Lib.hid h1
  have HK1 := Lib.hid hk1
  have HD1 := Lib.hid hd1
  clear hz hk1 hd1 h1 o1
  go_wp2_with fail
  refine HNX.out.mono ?_
  clear HNX
  rintro e w2 ⟨rfl, b2⟩
  have HO2 := Lib.hid (HO1.out.trans (Off.of_below b2) (fun _ h => h.elim))
  have H2 := Lib.hid (H1.out.below b2)
  clear b2 HO1 H1
  have Kn := Lib.hid (askst (X := X) HK1.out HS.out [110, 117, 108, 108] (by decide) false (by rw [HD1.out]; exact HB.out.null))
  go_wp2_with fail
  refine (Kn.out _ H2.out).mono ?_
  rintro e w3 ⟨rfl, h3, o3⟩
  have HO3 := Lib.hid (HO2.out.trans o3 (fun _ h => .inl h))
  have H3 : Hid (TS X s k1 w3) := Lib.hid h3
  clear h3 o3 Kn H2 HO2
  have Kf := Lib.hid (askst (X := X) HK1.out HS.out [102, 97, 108, 115, 101] (by decide) false (by rw [HD1.out]; exact HB.out.no))
  go_wp2_with fail
  refine (Kf.out _ H3.out).mono ?_
  rintro e w4 ⟨rfl, h4, o4⟩
  have HO4 := Lib.hid (HO3.out.trans o4 (fun _ h => .inl h))
  have H4 : Hid (TS X s k1 w4) := Lib.hid h4
  clear h4 o4 Kf H3 HO3
  have Kt := Lib.hid (askst (X := X) HK1.out HS.out [116, 114, 117, 101] (by decide) false (by rw [HD1.out]; exact HB.out.yes))
  go_wp2_with fail
  refine (Kt.out _ H4.out).mono ?_
  rintro e w5 ⟨rfl, h5, o5⟩
  have HO5 := Lib.hid (HO4.out.trans o5 (fun _ h => .inl h))
  have H5 : Hid (TS X s k1 w5) := Lib.hid h5
  clear h5 o5 Kt H4 HO4
  have z34 : (z == 34) = false := by rw [show (34 : Int) = ((34 : UInt8).toNat : Int) from rfl, HZ.out 34 (by decide)]; exact decide_eq_false H34.out
  have z91 : (z == 91) = false := by
    rw [show (91 : Int) = ((91 : UInt8).toNat : Int) from rfl, HZ.out 91 (by decide)]
    exact decide_eq_false (fun e => by have := pre_head.2 e; rw [HB.out.list] at this; cases this)
  have z123 : (z == 123) = false := by
    rw [show (123 : Int) = ((123 : UInt8).toNat : Int) from rfl, HZ.out 123 (by decide)]
    exact decide_eq_false (fun e => by have := pre_head.2 e; rw [HB.out.obj] at this; cases this)
  have z91c : (z != 91) = true := by rw [bne, z91]; rfl
  have z123c : (z != 123) = true := by rw [bne, z123]; rfl
  have HVB : Hid (valX d (s.drop k) = if numLen t = 0 then .error 70 else .ok (.mk 3 (t.take (numLen t)) [] [], t.drop (numLen t))) := Lib.hid (by rw [valX_bare HT.out HB.out, if_neg H34.out])
  have HNL := Lib.hid (numLen_le t)
  have hsl := slice_tail s k1 k1 rfl HK1.out t HD1.out
  have HQ := Lib.hid (fun W => (rjnum_any t W (by have h2 := congrArg List.length HD1.out; rw [List.length_drop] at h2; have := HS.out; omega)).mono (fun e w' ⟨h1, h2⟩ => (⟨h1, h2.symm⟩ : e = Ending.returned (.int .i64 (numLen t)) ∧ w' = W)))
  have HTL : Hid (t.length = s.length - k1) := Lib.hid (by have h2 := congrArg List.length HD1.out; rw [List.length_drop] at h2; exact h2.symm)
  have HSZ : Hid ((bs s).size = s.length) := Lib.hid (bs_size s)
  obtain ⟨m, hm⟩ : ∃ m, numLen t = m := ⟨_, rfl⟩
  rw [hm] at HVB HNL HQ
  clear hm
  go_upto_region 15 with fail
  have d0 : w5.drew.cell? ⟨X, 0, none⟩ = some (.string (bs s)) := H5.out.c0
  have d1 : w5.drew.cell? ⟨X, 1, none⟩ = some (.int .i64 k1) := H5.out.c1
  have e0 := H5.out.c0
  have e1 := H5.out.c1
  have hsz := HSZ.out
  have i1' : (0 : Int) ≤ (k1 : Int) := by omega
  have i2' : (k1 : Int) ≤ (s.length : Int) := by have := HK1.out; omega
  go_quiet ((go_at_call 28; with_reducible exact Calls.quiet_of_same (HQ.out _)))
  obtain ⟨V, hV⟩ : ∃ V, w5.drewN nq = V := ⟨_, rfl⟩
  have HV := Lib.hid (H5.out.drewN nq)
  have HOV := Lib.hid (HO5.out.drewN nq)
  rw [hV] at HV HOV ⊢
  clear hV d0 d1 e0 e1 hsl HQ H5 HO5
  by_cases h0 : m = 0
  · subst h0
    have HVE : Hid (valX d (s.drop k) = .error 70) := Lib.hid (by rw [HVB.out, if_pos rfl])
    clear HVB
    have hRk := HR.out.off HOV.out (fun e => by have := HXL.out; omega)
    go_wp2_with (guard_target =~ Go.wpList _ _ _ ({ dst := none, op := Go.Op.store 28 _ _, type := _, pos := _, after := _, guard := none } :: _) _ _; refine st4 rfl rfl ⟨rfl, rfl, rfl, rfl⟩ hRk ?_)
    intro wz hz oz
    have HO := Lib.hid (off_res HXL.out HOV.out oz)
    clear hRk oz
    go_wp2
    exact bodyPost_ret (by simp [results, Tryd.results23, go_sem, J4.c0 hz, J4.c1 hz, J4.c2 hz, J4.c3 hz]) rfl ⟨HO.out, .inr ⟨70, HVE.out, by decide, rfl⟩⟩
  · have HVG : Hid (valX d (s.drop k) = .ok (.mk 3 (t.take m) [] [], t.drop m)) := Lib.hid (by rw [HVB.out, if_neg h0])
    have hm0 : ((m : Int) == 0) = false := by rw [beq_eq_false_iff_ne]; omega
    have hm0' : (m == 0) = false := by rw [beq_eq_false_iff_ne]; exact h0
    obtain ⟨q, hq⟩ : ∃ q, k1 + m = q := ⟨_, rfl⟩
    have hqs : q ≤ s.length := by have := HNL.out; have := HTL.out; have := HK1.out; omega
    have HQS := Lib.hid hqs
    have e1 := HV.out.c1
    have ef := HV.out.free 1
    have hwr : IntKind.i64.wrap ((k1 : Int) + (m : Int)) = (q : Int) := by rw [← hq]; exact IntWalk.i64_in _ (by have := HS.out; omega)
    have HDQ : Hid (s.drop q = t.drop m) := Lib.hid (by rw [← HD1.out, List.drop_drop, hq])
    have hw2 : IntKind.i64.wrap ((q : Int) - (m : Int)) = (q : Int) - (m : Int) := IntWalk.i64_in _ (by have := HS.out; omega)
    obtain ⟨y, hy⟩ : ∃ y, t.take m = y := ⟨_, rfl⟩
    have hsl2 : ∀ W, (Instr.slice 9 (.string (bs s)) (some (.int .i64 ((q : Int) - (m : Int)))) (some (.int .i64 (q : Int))) none).run Tryd.prog W = .ok (.string (bs y)) W := fun W => by
      have := slice_mid s k1 m (q : Int) (by omega) (by omega) y (by rw [HD1.out]; exact hy) W
      rw [show ((q : Int) - (m : Int)) = (k1 : Int) by omega]
      exact this
    have H5 : Hid (TS X s q (V.setCell ⟨X, 1, none⟩ (.int .i64 (q : Int)))) := Lib.hid (HV.out.set q)
    have HO5 := Lib.hid (HOV.out.trans (off_set7 V X 1 (.int .i64 (q : Int))) (fun _ h => .inl h))
    rw [hy] at HVG
    have i3' : (0 : Int) ≤ (q : Int) - (m : Int) := by omega
    have i4' : (q : Int) - (m : Int) ≤ (q : Int) := by omega
    have i5' : (q : Int) ≤ (s.length : Int) := by omega
    clear hq hqs hy h0 HVB
    go_upto_region 19 with fail
    obtain ⟨W5, hW5⟩ : ∃ V', V.setCell ⟨X, 1, none⟩ (.int .i64 (q : Int)) = V' := ⟨_, rfl⟩
    rw [hW5] at H5 HO5 ⊢
    clear hW5 hwr e1 ef
    have d0 : W5.drew.cell? ⟨X, 0, none⟩ = some (.string (bs s)) := H5.out.c0
    have d1 : W5.drew.cell? ⟨X, 1, none⟩ = some (.int .i64 (q : Int)) := H5.out.c1
    have hRk : JZ w.heap.size W5.drew := (HR.out.off HO5.out (fun e => by have := HXL.out; omega)).below (below_drewN (Below.refl _ _) 1)
    have HTD : Hid (TS X s q W5.drew) := Lib.hid (H5.out.drewN 1)
    have HOD : Hid (Off (fun b => b = X) (w.alloc (.cells #[.int .i64 0, .string ⟨#[]⟩, .slice none 0 0, .slice none 0 0] 28)) W5.drew) := Lib.hid (HO5.out.drewN 1)
    have hsz := HSZ.out
    go_still_tail 16, (by kernel_rfl)
    change wpList _ _ _ _ _ W5.drew
    generalize W5.drew = W6 at *
    go_wp2_with (guard_target =~ Go.wpList _ _ _ ({ dst := none, op := Go.Op.store 28 _ _, type := _, pos := _, after := _, guard := none } :: _) _ _; refine st4 rfl rfl ⟨rfl, rfl, rfl, rfl⟩ hRk ?_)
    intro wz hz oz
    have HO := Lib.hid (off_res HXL.out HOD.out oz)
    have HTZ := Lib.hid (HTD.out.off oz (fun e => by have := HXL.out; omega))
    clear hRk oz d0 d1
    go_wp2
    exact bodyPost_ret (by simp [results, Tryd.results23, go_sem, J4.c0 hz, J4.c1 hz, J4.c2 hz, J4.c3 hz]) rfl ⟨HO.out, .inl ⟨.mk 3 y [] [], _, q, by rw [HVG.out, HDQ.out], HQS.out, rfl, jr_zero _ _ 3 y, HTZ.out⟩⟩
end Go.Proofs.YtchgelfomnbpaaaDoor
