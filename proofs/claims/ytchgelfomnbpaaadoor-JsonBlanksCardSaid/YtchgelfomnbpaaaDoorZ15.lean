/-
  The program's value of JSON. Conditions: what stands in brackets is answered as it is (of shorter texts).
-/
import Derived.Test.YtchgelfomnbpaaaDoorZ14
namespace Go.Proofs.YtchgelfomnbpaaaDoor
open Go.RowKit
open Go.Lib

/-- What the program answers behind a bracket. -/
def IOut (X d : Nat) (obj : Bool) (s : Bt) (w0 : World) (e : Ending) (w' : World) : Prop := Off (fun b => b = X) w0 w' ∧
  ((∃ v x r, insF d obj s = .ok (v, r) ∧ e = .returned (.tuple #[x, .int .i64 0]) ∧ JR w' (fun b => w0.heap.size ≤ b ∧ b < w'.heap.size) v x ∧ PS X r d w') ∨
   (∃ z, insF d obj s = .error z ∧ z ≠ 0 ∧ e = .returned (.tuple #[zeroJ, .int .i64 z])))
theorem off_res {X : Nat} {w wN wz : World} (hX : X < w.heap.size) (o : Off (fun b => b = X) (w.alloc (.cells #[.int .i64 0, .string ⟨#[]⟩, .slice none 0 0, .slice none 0 0] 28)) wN) (oz : Off (fun b => b = w.heap.size) wN wz) : Off (fun b => b = X) w wz := by
  have h0 : Off (fun b => b = X) w (w.alloc (.cells #[.int .i64 0, .string ⟨#[]⟩, .slice none 0 0, .slice none 0 0] 28)) := (Off.of_below ((Below.refl _ _).alloc (Nat.le_refl _) _)).mono (fun _ h => h.elim)
  exact (h0.trans o (fun _ h => .inl h)).trans oz (fun b h => .inr (by omega))
theorem pre_cons {c : UInt8} {t : Bt} (h : ([c] : Bt).isPrefixOf t = true) : t = c :: t.drop 1 := by
  have := pre_head.1 h
  cases t with
  | nil => cases this
  | cons a t => rw [Option.some.inj this]; rfl
theorem pre_not {a b : UInt8} {t : Bt} (h : ([a] : Bt).isPrefixOf t = true) (hab : b ≠ a) (ws : Bt) : List.isPrefixOf (b :: ws) t = false := by
  rw [pre_cons h]
  exact pre_ne hab _ _
theorem wpre_first {a : UInt8} {bs1 t : Bt} (h : List.isPrefixOf (a :: bs1) t = true) : ∃ u, t = a :: u := by
  cases t with
  | nil => cases h
  | cons c u => exact ⟨u, by rw [pre_first h]⟩
theorem wpre_not {a b : UInt8} {bs1 t : Bt} (h : List.isPrefixOf (a :: bs1) t = true) (hab : b ≠ a) (ws : Bt) : List.isPrefixOf (b :: ws) t = false := by
  obtain ⟨u, rfl⟩ := wpre_first h
  exact pre_ne hab _ _
theorem jr_nil (w : World) (T : Nat → Prop) (k : Int) : JR w T (.mk k [] [] []) (.agg #[.int .i64 k, .string ⟨#[]⟩, .slice none 0 0, .slice none 0 0]) := jr_zero w T k []
/-- A word is asked for. -/
def Asks (X d : Nat) (s : Bt) (wd : ByteArray) (ob : Bool) (r : Bt) : Prop := ∀ W, PS X s d W → Calls Tryd.prog 52 #[.pointer (some ⟨X, 0, none⟩), .string wd] W fun e w' => e = .returned (.bool ob) ∧ PS X r d w' ∧ Off (fun b => b = X) W w'
theorem asks_no {X d : Nat} {s t : Bt} (ht : blanksL s = t) (wd : Bt) (h : wd.isPrefixOf t = false) : Asks X d s (bs wd) false t := fun _ hW => ptake_any hW ht wd false h rfl
theorem asks_yes {X d : Nat} {s t : Bt} (ht : blanksL s = t) (wd : Bt) (h : wd.isPrefixOf t = true) : Asks X d s (bs wd) true (t.drop wd.length) := fun _ hW => ptake_any hW ht wd true h rfl
abbrev VArgs (X : Nat) : Array Value := #[.pointer (some ⟨X, 0, none⟩)]
set_option maxRecDepth 100000 in
set_option maxHeartbeats 2000000 in
theorem val_list {X d : Nat} {s t : Bt} {w : World} (h : PS X s d w) (ht : blanksL s = t) (y91 : ([91] : Bt).isPrefixOf t = true) (HI : ∀ W, PS X (t.drop 1) d W → Calls Tryd.prog 53 #[.pointer (some ⟨X, 0, none⟩), .int .i64 5, .string ⟨#[93]⟩] W (IOut X d false (t.drop 1) W)) :
    Calls Tryd.prog 34 (VArgs X) w (VOut X d s w) := by
  have hR : JZ w.heap.size (w.alloc (.cells #[.int .i64 0, .string ⟨#[]⟩, .slice none 0 0, .slice none 0 0] 28)) := Blk.new _ w
  have HXL := Lib.hid h.lt
  have htt : blanksL t = t := by rw [← ht]; exact blanks_idem s
  have H0L : Hid (0 < w.heap.size ∧ 1 < w.heap.size) := Lib.hid h.tabs.lt
  have HT : Hid (blanksL s = opnB false :: t.drop 1) := Lib.hid (by rw [ht]; exact pre_cons y91)
  have HI := Lib.hid HI
  have K91 : Hid (Asks X d s ⟨#[91]⟩ true (t.drop 1)) := Lib.hid (asks_yes ht [91] (y91))
  have H0 : Hid (PS X s d (w.alloc (.cells #[.int .i64 0, .string ⟨#[]⟩, .slice none 0 0, .slice none 0 0] 28))) := Lib.hid (h.below ((Below.refl _ _).alloc (Nat.le_refl _) _))
  have HR := Lib.hid hR
  clear h htt hR y91
  go_enter Tryd.func34, Tryd.ntmps34
  go_wp2_with fail
  refine (K91.out _ H0.out).mono ?_
  rintro e w1 ⟨rfl, h1, o1⟩
  have HO1 := Lib.hid o1
  have H1 := Lib.hid h1
  clear h1 o1 K91
  go_wp2_with fail
  refine (HI.out _ H1.out).mono ?_
  rintro e wi ⟨oi, ⟨v, x, r, hv, rfl, hj, hp⟩ | ⟨z, hz0, hz1, rfl⟩⟩
  · have HOI := Lib.hid (HO1.out.trans oi (fun _ h => .inl h))
    have hsz := HO1.out.size
    have hbs : (w.alloc (.cells #[.int .i64 0, .string ⟨#[]⟩, .slice none 0 0, .slice none 0 0] 28)).heap.size = w.heap.size + 1 := by simp
    have hRk := HR.out.off HOI.out (fun e => by have := HXL.out; omega)
    obtain ⟨x0, x1, x2, x3, rfl, hone⟩ := jr_one hj
    have HJ := Lib.hid hj
    have HP := Lib.hid hp
    clear hj hp oi
    go_wp2_with (guard_target =~ Go.wpList _ _ _ ({ dst := none, op := Go.Op.store 28 _ _, type := _, pos := _, after := _, guard := none } :: _) _ _; refine st4 rfl rfl hone hRk ?_)
    intro wz hz oz
    have HO := Lib.hid (off_res HXL.out HOI.out oz)
    have HZ := Lib.hid (HP.out.off oz (fun e => by have := HXL.out; omega) (fun e => by have := H0L.out; omega) (fun e => by have := H0L.out; omega))
    have HJZ : Hid (JR wz (fun b => w.heap.size ≤ b ∧ b < wz.heap.size) v (.agg #[x0, x1, x2, x3])) := Lib.hid (JR.mono (fun b hb => ⟨by omega, by have := oz.size; omega⟩) v _ (JR.off oz (fun b hb e => by omega) v _ HJ.out))
    clear hRk oz hsz hbs
    go_wp2
    exact bodyPost_ret (by simp [results, Tryd.results34, go_sem, J4.c0 hz, J4.c1 hz, J4.c2 hz, J4.c3 hz]) rfl ⟨HO.out, .inl ⟨v, _, _, .inl (by rw [valX_open (obj := false) HT.out]; exact hv), rfl, HJZ.out, HZ.out⟩⟩
  · have HOI := Lib.hid (HO1.out.trans oi (fun _ h => .inl h))
    have hRk := HR.out.off HOI.out (fun e => by have := HXL.out; omega)
    go_wp2_with (guard_target =~ Go.wpList _ _ _ ({ dst := none, op := Go.Op.store 28 _ _, type := _, pos := _, after := _, guard := none } :: _) _ _; refine st4 rfl rfl ⟨rfl, rfl, rfl, rfl⟩ hRk ?_)
    intro wz hz oz
    have HO := Lib.hid (off_res HXL.out HOI.out oz)
    clear hRk oz oi
    go_wp2
    exact bodyPost_ret (by simp [results, Tryd.results34, go_sem, J4.c0 hz, J4.c1 hz, J4.c2 hz, J4.c3 hz]) rfl ⟨HO.out, .inr ⟨z, by rw [valX_open (obj := false) HT.out]; exact hz0, hz1, rfl⟩⟩
set_option maxRecDepth 100000 in
set_option maxHeartbeats 2000000 in
theorem val_obj {X d : Nat} {s t : Bt} {w : World} (h : PS X s d w) (ht : blanksL s = t) (y123 : ([123] : Bt).isPrefixOf t = true) (HI : ∀ W, PS X (t.drop 1) d W → Calls Tryd.prog 53 #[.pointer (some ⟨X, 0, none⟩), .int .i64 6, .string ⟨#[125]⟩] W (IOut X d true (t.drop 1) W)) :
    Calls Tryd.prog 34 (VArgs X) w (VOut X d s w) := by
  have hR : JZ w.heap.size (w.alloc (.cells #[.int .i64 0, .string ⟨#[]⟩, .slice none 0 0, .slice none 0 0] 28)) := Blk.new _ w
  have HXL := Lib.hid h.lt
  have htt : blanksL t = t := by rw [← ht]; exact blanks_idem s
  have H0L : Hid (0 < w.heap.size ∧ 1 < w.heap.size) := Lib.hid h.tabs.lt
  have HT : Hid (blanksL s = opnB true :: t.drop 1) := Lib.hid (by rw [ht]; exact pre_cons y123)
  have HI := Lib.hid HI
  have n91 : ([91] : Bt).isPrefixOf t = false := pre_not y123 (by decide) []
  have K91 : Hid (Asks X d s ⟨#[91]⟩ false t) := Lib.hid (asks_no ht [91] (n91))
  have K123 : Hid (Asks X d t ⟨#[123]⟩ true (t.drop 1)) := Lib.hid (asks_yes htt [123] (y123))
  have H0 : Hid (PS X s d (w.alloc (.cells #[.int .i64 0, .string ⟨#[]⟩, .slice none 0 0, .slice none 0 0] 28))) := Lib.hid (h.below ((Below.refl _ _).alloc (Nat.le_refl _) _))
  have HR := Lib.hid hR
  clear h htt hR n91 y123
  go_enter Tryd.func34, Tryd.ntmps34
  go_wp2_with fail
  refine (K91.out _ H0.out).mono ?_
  rintro e w1 ⟨rfl, h1, o1⟩
  have HO1 := Lib.hid o1
  have H1 := Lib.hid h1
  clear h1 o1 K91
  go_wp2_with fail
  refine (K123.out _ H1.out).mono ?_
  rintro e w2 ⟨rfl, h2, o2⟩
  have HO2 := Lib.hid (HO1.out.trans o2 (fun _ h => .inl h))
  have H2 := Lib.hid h2
  clear h2 o2 K123 H1 HO1
  go_wp2_with fail
  refine (HI.out _ H2.out).mono ?_
  rintro e wi ⟨oi, ⟨v, x, r, hv, rfl, hj, hp⟩ | ⟨z, hz0, hz1, rfl⟩⟩
  · have HOI := Lib.hid (HO2.out.trans oi (fun _ h => .inl h))
    have hsz := HO2.out.size
    have hbs : (w.alloc (.cells #[.int .i64 0, .string ⟨#[]⟩, .slice none 0 0, .slice none 0 0] 28)).heap.size = w.heap.size + 1 := by simp
    have hRk := HR.out.off HOI.out (fun e => by have := HXL.out; omega)
    obtain ⟨x0, x1, x2, x3, rfl, hone⟩ := jr_one hj
    have HJ := Lib.hid hj
    have HP := Lib.hid hp
    clear hj hp oi
    go_wp2_with (guard_target =~ Go.wpList _ _ _ ({ dst := none, op := Go.Op.store 28 _ _, type := _, pos := _, after := _, guard := none } :: _) _ _; refine st4 rfl rfl hone hRk ?_)
    intro wz hz oz
    have HO := Lib.hid (off_res HXL.out HOI.out oz)
    have HZ := Lib.hid (HP.out.off oz (fun e => by have := HXL.out; omega) (fun e => by have := H0L.out; omega) (fun e => by have := H0L.out; omega))
    have HJZ : Hid (JR wz (fun b => w.heap.size ≤ b ∧ b < wz.heap.size) v (.agg #[x0, x1, x2, x3])) := Lib.hid (JR.mono (fun b hb => ⟨by omega, by have := oz.size; omega⟩) v _ (JR.off oz (fun b hb e => by omega) v _ HJ.out))
    clear hRk oz hsz hbs
    go_wp2
    exact bodyPost_ret (by simp [results, Tryd.results34, go_sem, J4.c0 hz, J4.c1 hz, J4.c2 hz, J4.c3 hz]) rfl ⟨HO.out, .inl ⟨v, _, _, .inl (by rw [valX_open (obj := true) HT.out]; exact hv), rfl, HJZ.out, HZ.out⟩⟩
  · have HOI := Lib.hid (HO2.out.trans oi (fun _ h => .inl h))
    have hRk := HR.out.off HOI.out (fun e => by have := HXL.out; omega)
    go_wp2_with (guard_target =~ Go.wpList _ _ _ ({ dst := none, op := Go.Op.store 28 _ _, type := _, pos := _, after := _, guard := none } :: _) _ _; refine st4 rfl rfl ⟨rfl, rfl, rfl, rfl⟩ hRk ?_)
    intro wz hz oz
    have HO := Lib.hid (off_res HXL.out HOI.out oz)
    clear hRk oz oi
    go_wp2
    exact bodyPost_ret (by simp [results, Tryd.results34, go_sem, J4.c0 hz, J4.c1 hz, J4.c2 hz, J4.c3 hz]) rfl ⟨HO.out, .inr ⟨z, by rw [valX_open (obj := true) HT.out]; exact hz0, hz1, rfl⟩⟩
set_option maxRecDepth 100000 in
set_option maxHeartbeats 2000000 in
theorem val_null {X d : Nat} {s t : Bt} {w : World} (h : PS X s d w) (ht : blanksL s = t) (yn : List.isPrefixOf [110, 117, 108, 108] t = true) :
    Calls Tryd.prog 34 (VArgs X) w (VOut X d s w) := by
  have hR : JZ w.heap.size (w.alloc (.cells #[.int .i64 0, .string ⟨#[]⟩, .slice none 0 0, .slice none 0 0] 28)) := Blk.new _ w
  have HXL := Lib.hid h.lt
  have htt : blanksL t = t := by rw [← ht]; exact blanks_idem s
  have H0L : Hid (0 < w.heap.size ∧ 1 < w.heap.size) := Lib.hid h.tabs.lt
  have n91 : List.isPrefixOf [91] t = false := wpre_not yn (by decide) _
  have n123 : List.isPrefixOf [123] t = false := wpre_not yn (by decide) _
  have HY := Lib.hid yn
  have K91 : Hid (Asks X d s ⟨#[91]⟩ false t) := Lib.hid (asks_no ht [91] (n91))
  have K123 : Hid (Asks X d t ⟨#[123]⟩ false t) := Lib.hid (asks_no htt [123] (n123))
  have Kn : Hid (Asks X d t ⟨#[110, 117, 108, 108]⟩ true (t.drop 4)) := Lib.hid (asks_yes htt [110, 117, 108, 108] (yn))
  have H0 : Hid (PS X s d (w.alloc (.cells #[.int .i64 0, .string ⟨#[]⟩, .slice none 0 0, .slice none 0 0] 28))) := Lib.hid (h.below ((Below.refl _ _).alloc (Nat.le_refl _) _))
  have HR := Lib.hid hR
  clear h htt hR n91 n123 yn
  go_enter Tryd.func34, Tryd.ntmps34
  go_wp2_with fail
  refine (K91.out _ H0.out).mono ?_
  rintro e w1 ⟨rfl, h1, o1⟩
  have HO1 := Lib.hid o1
  have H1 := Lib.hid h1
  clear h1 o1 K91
  go_wp2_with fail
  refine (K123.out _ H1.out).mono ?_
  rintro e w2 ⟨rfl, h2, o2⟩
  have HO2 := Lib.hid (HO1.out.trans o2 (fun _ h => .inl h))
  have H2 := Lib.hid h2
  clear h2 o2 K123 H1 HO1
  go_wp2_with fail
  refine (Kn.out _ H2.out).mono ?_
  rintro e w3 ⟨rfl, h3, o3⟩
  have HO3 := Lib.hid (HO2.out.trans o3 (fun _ h => .inl h))
  have H3 := Lib.hid h3
  clear h3 o3 Kn H2 HO2
  have hRk := HR.out.off HO3.out (fun e => by have := HXL.out; omega)
  go_wp2_with (guard_target =~ Go.wpList _ _ _ ({ dst := none, op := Go.Op.store 28 _ _, type := _, pos := _, after := _, guard := none } :: _) _ _; refine st4 rfl rfl ⟨rfl, rfl, rfl, rfl⟩ hRk ?_)
  intro wz hz oz
  have HO := Lib.hid (off_res HXL.out HO3.out oz)
  have HZ := Lib.hid (H3.out.off oz (fun e => by have := HXL.out; omega) (fun e => by have := H3.out.tabs.lt; have := H0L.out; omega) (fun e => by have := H3.out.tabs.lt; have := H0L.out; omega))
  clear hRk oz
  go_wp2
  exact bodyPost_ret (by simp [results, Tryd.results34, go_sem, J4.c0 hz, J4.c1 hz, J4.c2 hz, J4.c3 hz]) rfl ⟨HO.out, .inl ⟨.mk 0 [] [] [], _, _, .inl (valX_null ht HY.out), rfl, jr_nil _ _ 0, HZ.out⟩⟩
set_option maxRecDepth 100000 in
set_option maxHeartbeats 2000000 in
theorem val_false {X d : Nat} {s t : Bt} {w : World} (h : PS X s d w) (ht : blanksL s = t) (yf : List.isPrefixOf [102, 97, 108, 115, 101] t = true) :
    Calls Tryd.prog 34 (VArgs X) w (VOut X d s w) := by
  have hR : JZ w.heap.size (w.alloc (.cells #[.int .i64 0, .string ⟨#[]⟩, .slice none 0 0, .slice none 0 0] 28)) := Blk.new _ w
  have HXL := Lib.hid h.lt
  have htt : blanksL t = t := by rw [← ht]; exact blanks_idem s
  have H0L : Hid (0 < w.heap.size ∧ 1 < w.heap.size) := Lib.hid h.tabs.lt
  have n91 : List.isPrefixOf [91] t = false := wpre_not yf (by decide) _
  have n123 : List.isPrefixOf [123] t = false := wpre_not yf (by decide) _
  have nn : List.isPrefixOf [110, 117, 108, 108] t = false := wpre_not yf (by decide) _
  have HY := Lib.hid yf
  have HNN : Hid (nullW.isPrefixOf t = false) := Lib.hid nn
  have K91 : Hid (Asks X d s ⟨#[91]⟩ false t) := Lib.hid (asks_no ht [91] (n91))
  have K123 : Hid (Asks X d t ⟨#[123]⟩ false t) := Lib.hid (asks_no htt [123] (n123))
  have Kn : Hid (Asks X d t ⟨#[110, 117, 108, 108]⟩ false t) := Lib.hid (asks_no htt [110, 117, 108, 108] (nn))
  have Kf : Hid (Asks X d t ⟨#[102, 97, 108, 115, 101]⟩ true (t.drop 5)) := Lib.hid (asks_yes htt [102, 97, 108, 115, 101] (yf))
  have H0 : Hid (PS X s d (w.alloc (.cells #[.int .i64 0, .string ⟨#[]⟩, .slice none 0 0, .slice none 0 0] 28))) := Lib.hid (h.below ((Below.refl _ _).alloc (Nat.le_refl _) _))
  have HR := Lib.hid hR
  clear h htt hR n91 n123 nn yf
  go_enter Tryd.func34, Tryd.ntmps34
  go_wp2_with fail
  refine (K91.out _ H0.out).mono ?_
  rintro e w1 ⟨rfl, h1, o1⟩
  have HO1 := Lib.hid o1
  have H1 := Lib.hid h1
  clear h1 o1 K91
  go_wp2_with fail
  refine (K123.out _ H1.out).mono ?_
  rintro e w2 ⟨rfl, h2, o2⟩
  have HO2 := Lib.hid (HO1.out.trans o2 (fun _ h => .inl h))
  have H2 := Lib.hid h2
  clear h2 o2 K123 H1 HO1
  go_wp2_with fail
  refine (Kn.out _ H2.out).mono ?_
  rintro e w3 ⟨rfl, h3, o3⟩
  have HO3 := Lib.hid (HO2.out.trans o3 (fun _ h => .inl h))
  have H3 := Lib.hid h3
  clear h3 o3 Kn H2 HO2
  go_wp2_with fail
  refine (Kf.out _ H3.out).mono ?_
  rintro e w4 ⟨rfl, h4, o4⟩
  have HO4 := Lib.hid (HO3.out.trans o4 (fun _ h => .inl h))
  have H4 := Lib.hid h4
  clear h4 o4 Kf H3 HO3
  have hRk := HR.out.off HO4.out (fun e => by have := HXL.out; omega)
  go_wp2_with (guard_target =~ Go.wpList _ _ _ ({ dst := none, op := Go.Op.store 28 _ _, type := _, pos := _, after := _, guard := none } :: _) _ _; refine st4 rfl rfl ⟨rfl, rfl, rfl, rfl⟩ hRk ?_)
  intro wz hz oz
  have HO := Lib.hid (off_res HXL.out HO4.out oz)
  have HZ := Lib.hid (H4.out.off oz (fun e => by have := HXL.out; omega) (fun e => by have := H4.out.tabs.lt; have := H0L.out; omega) (fun e => by have := H4.out.tabs.lt; have := H0L.out; omega))
  clear hRk oz
  go_wp2
  exact bodyPost_ret (by simp [results, Tryd.results34, go_sem, J4.c0 hz, J4.c1 hz, J4.c2 hz, J4.c3 hz]) rfl ⟨HO.out, .inl ⟨.mk 1 [] [] [], _, _, .inl (valX_false ht HNN.out HY.out), rfl, jr_nil _ _ 1, HZ.out⟩⟩
set_option maxRecDepth 100000 in
set_option maxHeartbeats 2000000 in
theorem val_true {X d : Nat} {s t : Bt} {w : World} (h : PS X s d w) (ht : blanksL s = t) (yt : List.isPrefixOf [116, 114, 117, 101] t = true) :
    Calls Tryd.prog 34 (VArgs X) w (VOut X d s w) := by
  have hR : JZ w.heap.size (w.alloc (.cells #[.int .i64 0, .string ⟨#[]⟩, .slice none 0 0, .slice none 0 0] 28)) := Blk.new _ w
  have HXL := Lib.hid h.lt
  have htt : blanksL t = t := by rw [← ht]; exact blanks_idem s
  have H0L : Hid (0 < w.heap.size ∧ 1 < w.heap.size) := Lib.hid h.tabs.lt
  have n91 : List.isPrefixOf [91] t = false := wpre_not yt (by decide) _
  have n123 : List.isPrefixOf [123] t = false := wpre_not yt (by decide) _
  have nn : List.isPrefixOf [110, 117, 108, 108] t = false := wpre_not yt (by decide) _
  have nf : List.isPrefixOf [102, 97, 108, 115, 101] t = false := wpre_not yt (by decide) _
  have HY := Lib.hid yt
  have HNN : Hid (nullW.isPrefixOf t = false) := Lib.hid nn
  have HNF : Hid (falseW.isPrefixOf t = false) := Lib.hid nf
  have K91 : Hid (Asks X d s ⟨#[91]⟩ false t) := Lib.hid (asks_no ht [91] (n91))
  have K123 : Hid (Asks X d t ⟨#[123]⟩ false t) := Lib.hid (asks_no htt [123] (n123))
  have Kn : Hid (Asks X d t ⟨#[110, 117, 108, 108]⟩ false t) := Lib.hid (asks_no htt [110, 117, 108, 108] (nn))
  have Kf : Hid (Asks X d t ⟨#[102, 97, 108, 115, 101]⟩ false t) := Lib.hid (asks_no htt [102, 97, 108, 115, 101] (nf))
  have Kt : Hid (Asks X d t ⟨#[116, 114, 117, 101]⟩ true (t.drop 4)) := Lib.hid (asks_yes htt [116, 114, 117, 101] (yt))
  have H0 : Hid (PS X s d (w.alloc (.cells #[.int .i64 0, .string ⟨#[]⟩, .slice none 0 0, .slice none 0 0] 28))) := Lib.hid (h.below ((Below.refl _ _).alloc (Nat.le_refl _) _))
  have HR := Lib.hid hR
  clear h htt hR n91 n123 nn nf yt
  go_enter Tryd.func34, Tryd.ntmps34
  go_wp2_with fail
  refine (K91.out _ H0.out).mono ?_
  rintro e w1 ⟨rfl, h1, o1⟩
  have HO1 := Lib.hid o1
  have H1 := Lib.hid h1
  clear h1 o1 K91
  go_wp2_with fail
  refine (K123.out _ H1.out).mono ?_
  rintro e w2 ⟨rfl, h2, o2⟩
  have HO2 := Lib.hid (HO1.out.trans o2 (fun _ h => .inl h))
  have H2 := Lib.hid h2
  clear h2 o2 K123 H1 HO1
  go_wp2_with fail
  refine (Kn.out _ H2.out).mono ?_
  rintro e w3 ⟨rfl, h3, o3⟩
  have HO3 := Lib.hid (HO2.out.trans o3 (fun _ h => .inl h))
  have H3 := Lib.hid h3
  clear h3 o3 Kn H2 HO2
  go_wp2_with fail
  refine (Kf.out _ H3.out).mono ?_
  rintro e w4 ⟨rfl, h4, o4⟩
  have HO4 := Lib.hid (HO3.out.trans o4 (fun _ h => .inl h))
  have H4 := Lib.hid h4
  clear h4 o4 Kf H3 HO3
  go_wp2_with fail
  refine (Kt.out _ H4.out).mono ?_
  rintro e w5 ⟨rfl, h5, o5⟩
  have HO5 := Lib.hid (HO4.out.trans o5 (fun _ h => .inl h))
  have H5 := Lib.hid h5
  clear h5 o5 Kt H4 HO4
  have hRk := HR.out.off HO5.out (fun e => by have := HXL.out; omega)
  go_wp2_with (guard_target =~ Go.wpList _ _ _ ({ dst := none, op := Go.Op.store 28 _ _, type := _, pos := _, after := _, guard := none } :: _) _ _; refine st4 rfl rfl ⟨rfl, rfl, rfl, rfl⟩ hRk ?_)
  intro wz hz oz
  have HO := Lib.hid (off_res HXL.out HO5.out oz)
  have HZ := Lib.hid (H5.out.off oz (fun e => by have := HXL.out; omega) (fun e => by have := H5.out.tabs.lt; have := H0L.out; omega) (fun e => by have := H5.out.tabs.lt; have := H0L.out; omega))
  clear hRk oz
  go_wp2
  exact bodyPost_ret (by simp [results, Tryd.results34, go_sem, J4.c0 hz, J4.c1 hz, J4.c2 hz, J4.c3 hz]) rfl ⟨HO.out, .inl ⟨.mk 2 [] [] [], _, _, .inl (valX_true ht HNN.out HNF.out HY.out), rfl, jr_nil _ _ 2, HZ.out⟩⟩
set_option maxRecDepth 100000 in
set_option maxHeartbeats 2000000 in
theorem val_num {X d : Nat} {s t : Bt} {w : World} (h : PS X s d w) (ht : blanksL s = t) {r : Bt} (hb : Bare t) (hf : numF t = some r) (hl : t.length ≤ 100000) :
    Calls Tryd.prog 34 (VArgs X) w (VOut X d s w) := by
  have hR : JZ w.heap.size (w.alloc (.cells #[.int .i64 0, .string ⟨#[]⟩, .slice none 0 0, .slice none 0 0] 28)) := Blk.new _ w
  have HXL := Lib.hid h.lt
  have htt : blanksL t = t := by rw [← ht]; exact blanks_idem s
  have H0L : Hid (0 < w.heap.size ∧ 1 < w.heap.size) := Lib.hid h.tabs.lt
  have n91 := hb.list
  have n123 := hb.obj
  have nn := hb.null
  have nf := hb.no
  have nt := hb.yes
  have HB := Lib.hid hb
  have HF := Lib.hid hf
  clear hf
  have K91 : Hid (Asks X d s ⟨#[91]⟩ false t) := Lib.hid (asks_no ht [91] (n91))
  have K123 : Hid (Asks X d t ⟨#[123]⟩ false t) := Lib.hid (asks_no htt [123] (n123))
  have Kn : Hid (Asks X d t ⟨#[110, 117, 108, 108]⟩ false t) := Lib.hid (asks_no htt [110, 117, 108, 108] (nn))
  have Kf : Hid (Asks X d t ⟨#[102, 97, 108, 115, 101]⟩ false t) := Lib.hid (asks_no htt [102, 97, 108, 115, 101] (nf))
  have Kt : Hid (Asks X d t ⟨#[116, 114, 117, 101]⟩ false t) := Lib.hid (asks_no htt [116, 114, 117, 101] (nt))
  have H0 : Hid (PS X s d (w.alloc (.cells #[.int .i64 0, .string ⟨#[]⟩, .slice none 0 0, .slice none 0 0] 28))) := Lib.hid (h.below ((Below.refl _ _).alloc (Nat.le_refl _) _))
  have HR := Lib.hid hR
  clear h htt hR n91 n123 nn nf nt
  go_enter Tryd.func34, Tryd.ntmps34
  go_wp2_with fail
  refine (K91.out _ H0.out).mono ?_
  rintro e w1 ⟨rfl, h1, o1⟩
  have HO1 := Lib.hid o1
  have H1 := Lib.hid h1
  clear h1 o1 K91
  go_wp2_with fail
  refine (K123.out _ H1.out).mono ?_
  rintro e w2 ⟨rfl, h2, o2⟩
  have HO2 := Lib.hid (HO1.out.trans o2 (fun _ h => .inl h))
  have H2 := Lib.hid h2
  clear h2 o2 K123 H1 HO1
  go_wp2_with fail
  refine (Kn.out _ H2.out).mono ?_
  rintro e w3 ⟨rfl, h3, o3⟩
  have HO3 := Lib.hid (HO2.out.trans o3 (fun _ h => .inl h))
  have H3 := Lib.hid h3
  clear h3 o3 Kn H2 HO2
  go_wp2_with fail
  refine (Kf.out _ H3.out).mono ?_
  rintro e w4 ⟨rfl, h4, o4⟩
  have HO4 := Lib.hid (HO3.out.trans o4 (fun _ h => .inl h))
  have H4 := Lib.hid h4
  clear h4 o4 Kf H3 HO3
  go_wp2_with fail
  refine (Kt.out _ H4.out).mono ?_
  rintro e w5 ⟨rfl, h5, o5⟩
  have HO5 := Lib.hid (HO4.out.trans o5 (fun _ h => .inl h))
  have H5 := Lib.hid h5
  clear h5 o5 Kt H4 HO4
  have htt : blanksL t = t := by rw [← ht]; exact blanks_idem s
  have HN : Hid (∀ W, PS X t d W → Calls Tryd.prog 54 #[.pointer (some ⟨X, 0, none⟩)] W fun e w' => e = .returned (.tuple #[.string (bs (t.take (t.length - r.length))), .bool true]) ∧ PS X r d w' ∧ Off (fun b => b = X) W w') := Lib.hid (fun W hW => pnum_some hW htt HF.out (by omega))
  obtain ⟨y, hy⟩ : ∃ y, t.take (t.length - r.length) = y := ⟨_, rfl⟩
  rw [hy] at HN
  have HYE := Lib.hid hy
  clear htt hy
  go_wp2_with fail
  refine (HN.out _ H5.out).mono ?_
  rintro e wi ⟨rfl, hp, oi⟩
  have HOI := Lib.hid (HO5.out.trans oi (fun _ h => .inl h))
  have hRk := HR.out.off HOI.out (fun e => by have := HXL.out; omega)
  have HP := Lib.hid hp
  clear hp oi
  go_wp2_with (guard_target =~ Go.wpList _ _ _ ({ dst := none, op := Go.Op.store 28 _ _, type := _, pos := _, after := _, guard := none } :: _) _ _; refine st4 rfl rfl ⟨rfl, rfl, rfl, rfl⟩ hRk ?_)
  intro wz hz oz
  have HO := Lib.hid (off_res HXL.out HOI.out oz)
  have HZ := Lib.hid (HP.out.off oz (fun e => by have := HXL.out; omega) (fun e => by have := H0L.out; omega) (fun e => by have := H0L.out; omega))
  clear hRk oz
  go_wp2
  exact bodyPost_ret (by simp [results, Tryd.results34, go_sem, J4.c0 hz, J4.c1 hz, J4.c2 hz, J4.c3 hz]) rfl ⟨HO.out, .inl ⟨.mk 3 y [] [], _, _, by rw [← HYE.out]; exact valX_num ht HB.out HF.out, rfl, jr_zero _ _ 3 y, HZ.out⟩⟩
set_option maxRecDepth 100000 in
set_option maxHeartbeats 2000000 in
theorem val_text {X d : Nat} {s t : Bt} {w : World} (h : PS X s d w) (ht : blanksL s = t) (hb : Bare t) (hf : numF t = none) (hl : t.length ≤ 100000) :
    Calls Tryd.prog 34 (VArgs X) w (VOut X d s w) := by
  have hR : JZ w.heap.size (w.alloc (.cells #[.int .i64 0, .string ⟨#[]⟩, .slice none 0 0, .slice none 0 0] 28)) := Blk.new _ w
  have HXL := Lib.hid h.lt
  have htt : blanksL t = t := by rw [← ht]; exact blanks_idem s
  have H0L : Hid (0 < w.heap.size ∧ 1 < w.heap.size) := Lib.hid h.tabs.lt
  have n91 := hb.list
  have n123 := hb.obj
  have nn := hb.null
  have nf := hb.no
  have nt := hb.yes
  have HB := Lib.hid hb
  have HF := Lib.hid hf
  clear hf
  have K91 : Hid (Asks X d s ⟨#[91]⟩ false t) := Lib.hid (asks_no ht [91] (n91))
  have K123 : Hid (Asks X d t ⟨#[123]⟩ false t) := Lib.hid (asks_no htt [123] (n123))
  have Kn : Hid (Asks X d t ⟨#[110, 117, 108, 108]⟩ false t) := Lib.hid (asks_no htt [110, 117, 108, 108] (nn))
  have Kf : Hid (Asks X d t ⟨#[102, 97, 108, 115, 101]⟩ false t) := Lib.hid (asks_no htt [102, 97, 108, 115, 101] (nf))
  have Kt : Hid (Asks X d t ⟨#[116, 114, 117, 101]⟩ false t) := Lib.hid (asks_no htt [116, 114, 117, 101] (nt))
  have H0 : Hid (PS X s d (w.alloc (.cells #[.int .i64 0, .string ⟨#[]⟩, .slice none 0 0, .slice none 0 0] 28))) := Lib.hid (h.below ((Below.refl _ _).alloc (Nat.le_refl _) _))
  have HR := Lib.hid hR
  clear h htt hR n91 n123 nn nf nt
  go_enter Tryd.func34, Tryd.ntmps34
  go_wp2_with fail
  refine (K91.out _ H0.out).mono ?_
  rintro e w1 ⟨rfl, h1, o1⟩
  have HO1 := Lib.hid o1
  have H1 := Lib.hid h1
  clear h1 o1 K91
  go_wp2_with fail
  refine (K123.out _ H1.out).mono ?_
  rintro e w2 ⟨rfl, h2, o2⟩
  have HO2 := Lib.hid (HO1.out.trans o2 (fun _ h => .inl h))
  have H2 := Lib.hid h2
  clear h2 o2 K123 H1 HO1
  go_wp2_with fail
  refine (Kn.out _ H2.out).mono ?_
  rintro e w3 ⟨rfl, h3, o3⟩
  have HO3 := Lib.hid (HO2.out.trans o3 (fun _ h => .inl h))
  have H3 := Lib.hid h3
  clear h3 o3 Kn H2 HO2
  go_wp2_with fail
  refine (Kf.out _ H3.out).mono ?_
  rintro e w4 ⟨rfl, h4, o4⟩
  have HO4 := Lib.hid (HO3.out.trans o4 (fun _ h => .inl h))
  have H4 := Lib.hid h4
  clear h4 o4 Kf H3 HO3
  go_wp2_with fail
  refine (Kt.out _ H4.out).mono ?_
  rintro e w5 ⟨rfl, h5, o5⟩
  have HO5 := Lib.hid (HO4.out.trans o5 (fun _ h => .inl h))
  have H5 := Lib.hid h5
  clear h5 o5 Kt H4 HO4
  have htt : blanksL t = t := by rw [← ht]; exact blanks_idem s
  have HN : Hid (∀ W, PS X t d W → Calls Tryd.prog 54 #[.pointer (some ⟨X, 0, none⟩)] W fun e w' => e = .returned (.tuple #[.string ⟨#[]⟩, .bool false]) ∧ PS X t d w' ∧ Off (fun b => b = X) W w') := Lib.hid (fun W hW => pnum_none hW htt HF.out)
  have HX : Hid (∀ W, PS X t d W → Calls Tryd.prog 55 #[.pointer (some ⟨X, 0, none⟩)] W fun e w' => ∃ x ok r, e = .returned (.tuple #[.string (bs x), .bool ok]) ∧ textL t = (if ok then some (x, r) else none) ∧ PS X r d w' ∧ Off (fun b => b = X) W w') := Lib.hid (fun W hW => ptext_any hW htt hl)
  clear htt
  go_wp2_with fail
  refine (HN.out _ H5.out).mono ?_
  rintro e wi ⟨rfl, hp, oi⟩
  have HOI := Lib.hid (HO5.out.trans oi (fun _ h => .inl h))
  have HP := Lib.hid hp
  clear hp oi HN
  go_wp2_with fail
  refine (HX.out _ HP.out).mono ?_
  rintro e wj ⟨x, ok, r, rfl, hx, hp, oj⟩
  have HOJ := Lib.hid (HOI.out.trans oj (fun _ h => .inl h))
  have HQ := Lib.hid hp
  have hRk := HR.out.off HOJ.out (fun e => by have := HXL.out; omega)
  clear hp oj HX
  cases ok with
  | true =>
    have HTX : Hid (textL t = some (x, r)) := Lib.hid hx
    clear hx
    go_wp2_with (guard_target =~ Go.wpList _ _ _ ({ dst := none, op := Go.Op.store 28 _ _, type := _, pos := _, after := _, guard := none } :: _) _ _; refine st4 rfl rfl ⟨rfl, rfl, rfl, rfl⟩ hRk ?_)
    intro wz hz oz
    have HO := Lib.hid (off_res HXL.out HOJ.out oz)
    have HZ := Lib.hid (HQ.out.off oz (fun e => by have := HXL.out; omega) (fun e => by have := H0L.out; omega) (fun e => by have := H0L.out; omega))
    clear hRk oz
    go_wp2
    exact bodyPost_ret (by simp [results, Tryd.results34, go_sem, J4.c0 hz, J4.c1 hz, J4.c2 hz, J4.c3 hz]) rfl ⟨HO.out, .inl ⟨.mk 4 x [] [], _, _, .inl (valX_text ht HB.out HTX.out), rfl, jr_zero _ _ 4 x, HZ.out⟩⟩
  | false =>
    have HTX : Hid (textL t = none) := Lib.hid hx
    clear hx
    go_wp2_with (guard_target =~ Go.wpList _ _ _ ({ dst := none, op := Go.Op.store 28 _ _, type := _, pos := _, after := _, guard := none } :: _) _ _; refine st4 rfl rfl ⟨rfl, rfl, rfl, rfl⟩ hRk ?_)
    intro wz hz oz
    have HO := Lib.hid (off_res HXL.out HOJ.out oz)
    clear hRk oz
    go_wp2
    exact bodyPost_ret (by simp [results, Tryd.results34, go_sem, J4.c0 hz, J4.c1 hz, J4.c2 hz, J4.c3 hz]) rfl ⟨HO.out, .inr ⟨70, valX_none ht HB.out HF.out HTX.out, by decide, rfl⟩⟩
/-- Any value. -/
theorem val_step {X d : Nat} {s : Bt} {w : World} (h : PS X s d w) (hl : s.length ≤ 100000)
    (HI : ∀ (obj : Bool) (u : Bt) (W : World), u.length < s.length → PS X u d W → Calls Tryd.prog 53 #[.pointer (some ⟨X, 0, none⟩), .int .i64 (kindC obj), .string (bs [endC obj])] W (IOut X d obj u W)) :
    Calls Tryd.prog 34 (VArgs X) w (VOut X d s w) := by
  obtain ⟨t, ht⟩ : ∃ t, blanksL s = t := ⟨_, rfl⟩
  have htl : t.length ≤ s.length := by rw [← ht]; exact blanks_le s
  have hdr : ∀ c, ([c] : Bt).isPrefixOf t = true → (t.drop 1).length < s.length := fun c hc => by
    have : 0 < t.length := by rw [pre_cons hc]; simp
    rw [List.length_drop]
    omega
  by_cases y91 : ([91] : Bt).isPrefixOf t = true
  · exact val_list h ht y91 (fun W hW => HI false _ W (hdr _ y91) hW)
  by_cases y123 : ([123] : Bt).isPrefixOf t = true
  · exact val_obj h ht y123 (fun W hW => HI true _ W (hdr _ y123) hW)
  by_cases yn : List.isPrefixOf [110, 117, 108, 108] t = true
  · exact val_null h ht yn
  by_cases yf : List.isPrefixOf [102, 97, 108, 115, 101] t = true
  · exact val_false h ht yf
  by_cases yt : List.isPrefixOf [116, 114, 117, 101] t = true
  · exact val_true h ht yt
  have hb : Bare t := ⟨eq_false_of_ne_true y91, eq_false_of_ne_true y123, eq_false_of_ne_true yn, eq_false_of_ne_true yf, eq_false_of_ne_true yt⟩
  cases hn : numF t with
  | some r => exact val_num h ht hb hn (by omega)
  | none => exact val_text h ht hb hn (by omega)
end Go.Proofs.YtchgelfomnbpaaaDoor
