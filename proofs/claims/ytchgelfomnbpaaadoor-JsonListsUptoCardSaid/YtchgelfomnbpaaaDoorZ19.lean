/-
  The program's reader of JSON: its state, blanks, words, texts, numbers. Conditions: texts of modest length; the library's two tables hold what they are laid with.
-/
import Derived.Test.YtchgelfomnbpaaaDoorZ11
import Derived.Test.YtchgelfomnbpaaaDoorZ18
namespace Go.Proofs.YtchgelfomnbpaaaDoor
open Go.RowKit
open Go.Lib

theorem Tabs.off {F : Nat → Prop} {w w' : World} (h : Tabs w) (ho : Off F w w') (h0 : ¬ F 0) (h1 : ¬ F 1) : Tabs w' :=
  ⟨fun c hc => ho.cell (h.1 c hc) h0, fun i hi => ⟨ho.cell (h.2 i hi).1 h1, ho.cell (h.2 i hi).2 h1⟩⟩
/-- No table's block. -/
def NoTab (X : Nat) : Prop := ¬ 0 = X ∧ ¬ 1 = X
theorem Tabs.lt {w : World} (h : Tabs w) : 0 < w.heap.size ∧ 1 < w.heap.size := ⟨World.block_lt_of_cell? w _ (h.1 0 (by decide)), World.block_lt_of_cell? w _ (h.2 0 (by decide)).1⟩
theorem NoTab.new {w : World} (h : Tabs w) {X : Nat} (hX : w.heap.size ≤ X) : NoTab X := by
  obtain ⟨h1, h2⟩ := h.lt
  exact ⟨by omega, by omega⟩
abbrev TRd : TypeId := 53
/-- The program's reader at block X: what isn't read yet, how many are open. -/
structure PS (X : Nat) (s : Bt) (d : Nat) (w : World) : Prop where
  blk : Blk X (.cells #[.string (bs s), .int .i64 d] TRd (0, 0)) w
  tabs : Tabs w
  no : NoTab X
section
variable {X : Nat} {s : Bt} {d : Nat} {w w' : World}
theorem PS.c0 (h : PS X s d w) : w.cell? ⟨X, 0, none⟩ = some (.string (bs s)) := Blk.cell h.blk 0
theorem PS.c1 (h : PS X s d w) : w.cell? ⟨X, 1, none⟩ = some (.int .i64 d) := Blk.cell h.blk 1
theorem PS.free (h : PS X s d w) (j : Nat) : w.frozen? ⟨X, j, none⟩ = false := Blk.free h.blk j
theorem PS.off {F : Nat → Prop} (h : PS X s d w) (ho : Off F w w') (hX : ¬ F X) (h0 : ¬ F 0) (h1 : ¬ F 1) : PS X s d w' := ⟨ho.blk h.blk hX, h.tabs.off ho h0 h1, h.no⟩
theorem PS.below (h : PS X s d w) (hb : Below w.heap.size w w') : PS X s d w' := h.off (Off.of_below hb) (fun h => h) (fun h => h) (fun h => h)
theorem PS.set0 (h : PS X s d w) (r : Bt) : PS X r d (w.setCell ⟨X, 0, none⟩ (.string (bs r))) := ⟨Blk.set h.blk 0 (.string (bs r)), h.tabs.off (off_set7 w X 0 (.string (bs r))) h.no.1 h.no.2, h.no⟩
theorem PS.set1 (h : PS X s d w) (e : Nat) : PS X s e (w.setCell ⟨X, 1, none⟩ (.int .i64 e)) := ⟨Blk.set h.blk 1 (.int .i64 e), h.tabs.off (off_set7 w X 1 (.int .i64 e)) h.no.1 h.no.2, h.no⟩
theorem PS.drewN (h : PS X s d w) (n : Nat) : PS X s d (w.drewN n) := h.below (below_drewN (Below.refl _ _) n)
theorem PS.lt (h : PS X s d w) : X < w.heap.size := h.blk.lt
end
theorem white_mem (c : UInt8) : ([32, 9, 10, 13] : Bt).contains c = isBl c := by
  have h : ∀ n : Nat, n < 256 → ([32, 9, 10, 13] : Bt).contains (UInt8.ofNat n) = isBl (UInt8.ofNat n) := by decide +kernel
  have := h c.toNat (UInt8.toNat_lt c)
  rw [UInt8.ofNat_toNat] at this
  exact this
theorem trim_white (s : Bt) (W : World) : Calls Tryd.prog 56 #[.string (bs s), .string ⟨#[32, 9, 10, 13]⟩] W fun e w' => e = .returned (.string (bs (blanksL s))) ∧ Below W.heap.size W w' := by
  have h := libTrimLeft (bs s) (bs [32, 9, 10, 13]) W (by decide) (by
    intro j b h
    rw [bs_list] at h
    have := List.mem_of_getElem? h
    have hall : ∀ c ∈ ([32, 9, 10, 13] : Bt), c.toNat < 128 := by decide
    exact hall b this)
  rw [bs_list, bs_list] at h
  have e : Lib.trimLeftS s [32, 9, 10, 13] = blanksL s := by
    unfold Lib.trimLeftS blanksL
    rw [show (fun x => ([32, 9, 10, 13] : Bt).contains x) = isBl from funext white_mem]
  rw [e] at h
  exact h
set_option maxRecDepth 100000 in
theorem pskip_any {X : Nat} {s t : Bt} {d : Nat} {w : World} (h : PS X s d w) (ht : blanksL s = t) :
    Calls Tryd.prog 35 #[.pointer (some ⟨X, 0, none⟩)] w fun e w' => e = .returned (.tuple #[]) ∧ PS X t d w' ∧ Off (fun b => b = X) w w' := by
  have HT := Lib.hid (fun W => trim_white s W)
  rw [ht] at HT
  have c0 := h.c0
  have H0 := Lib.hid h
  clear h ht
  go_enter Tryd.func35, Tryd.ntmps35
  go_wp2_with (go_at_call 56; (with_reducible refine (HT.out _).mono ?_); rintro e w1 ⟨rfl, b1⟩
               have h1 := H0.out.below b1
               have z0 := h1.c0
               have zf := h1.free 0
               have H1 := Lib.hid (h1.set0 t)
               have HO := Lib.hid (((Off.of_below b1).mono (fun _ h => h.elim)).trans (off_set7 w1 X 0 (.string (bs t))) (fun _ h => .inl h))
               clear h1)
  go_end0
  exact ⟨rfl, H1.out, HO.out⟩
theorem cut_word (s wd : Bt) (W : World) : Calls Tryd.prog 67 #[.string (bs s), .string (bs wd)] W fun e w' => e = .returned (.tuple #[.string (bs (if wd.isPrefixOf s then s.drop wd.length else s)), .bool (wd.isPrefixOf s)]) ∧ w' = W := by
  have h := libCutPre (bs s) (bs wd) W
  rw [bs_list, bs_list] at h
  exact h
set_option maxRecDepth 100000 in
theorem ptake_any {X : Nat} {s t r : Bt} {d : Nat} {w : World} (h : PS X s d w) (ht : blanksL s = t) (wd : Bt) (ob : Bool) (hob : wd.isPrefixOf t = ob) (hr : (if ob then t.drop wd.length else t) = r) :
    Calls Tryd.prog 52 #[.pointer (some ⟨X, 0, none⟩), .string (bs wd)] w fun e w' => e = .returned (.bool ob) ∧ PS X r d w' ∧ Off (fun b => b = X) w w' := by
  have HSK : Hid (∀ W, PS X s d W → Calls Tryd.prog 35 #[.pointer (some ⟨X, 0, none⟩)] W fun e w' => e = .returned (.tuple #[]) ∧ PS X t d w' ∧ Off (fun b => b = X) W w') := Lib.hid (fun W hW => pskip_any hW ht)
  have HC := Lib.hid (fun W => cut_word t wd W)
  rw [hob, hr] at HC
  have H0 := Lib.hid h
  obtain ⟨S, hS⟩ : ∃ S, bs wd = S := ⟨_, rfl⟩
  rw [hS] at HC ⊢
  clear h ht hob hr hS
  go_enter Tryd.func52, Tryd.ntmps52
  go_wp2_with (first
    | (go_at_call 35; (with_reducible refine (HSK.out _ H0.out).mono ?_); rintro e w1 ⟨rfl, h1, o1⟩
       have c0 := h1.c0
       have H1 := Lib.hid h1
       have HO := Lib.hid (o1.trans (off_set7 w1 X 0 (.string (bs r))) (fun _ h => .inl h))
       have zf := h1.free 0
       have H2 := Lib.hid (h1.set0 r)
       clear h1 o1)
    | (go_at_call 67; (with_reducible refine (HC.out _).mono ?_); rintro e w2 ⟨rfl, rfl⟩))
  go_ret
  exact ⟨rfl, H2.out, HO.out⟩
/-! ### Texts in quotes -/
theorem unjson_nil : unjson [] = none := rfl
theorem unjson_q (a : Bt) : unjson (34 :: a ++ [34]) = unjq a := by
  have hq : quoted (34 :: a ++ [34]) = true := by
    unfold quoted
    simp
  unfold unjson unjq
  rw [hq]
  have e : (List.drop 1 (34 :: a ++ [34])).take ((34 :: a ++ [34]).length - 2) = a := by
    simp
  rw [e]
  simp
theorem slice_front (s : Bt) (k : Nat) (z : Int) (hz : (k : Int) = z) (h : k ≤ s.length) (r : Bt) (hr : s.take k = r) (W : World) : (Instr.slice 9 (.string (bs s)) none (some (.int .i64 z)) none).run Tryd.prog W = .ok (.string (bs r)) W := by
  subst hz hr
  have hsz := bs_size s
  refine (run_slice_string_h (P := Tryd.prog) W 9 (bs s) Tryd.underlying9 .i64 (k : Int) (by omega) (by omega)).trans ?_
  congr 2
  apply ByteArray.ext
  apply Array.ext'
  rw [show ((k : Int)).toNat = k from by omega]
  unfold bs
  simp [ByteArray.data_extract]
theorem text_qw (t : Bt) : qwL t ≤ t.length ∧ (∀ x r, textL t = some (x, r) → unjson (t.take (qwL t)) = some x ∧ t.drop (qwL t) = r) ∧ (textL t = none → unjson (t.take (qwL t)) = none) := by
  cases t with
  | nil => exact ⟨Nat.le_refl _, ⟨fun x r h => (by cases h), fun _ => rfl⟩⟩
  | cons c u =>
    by_cases hc : c = 34
    · subst hc
      cases hs : scanQ u with
      | none =>
        have hq : qwL (34 :: u) = 0 := by unfold qwL; simp only [if_pos, hs]
        have ht : textL (34 :: u) = none := by unfold textL; simp only [if_pos, hs]
        rw [hq]
        refine ⟨Nat.zero_le _, fun x r h => ?_, fun _ => rfl⟩
        rw [ht] at h; cases h
      | some y =>
        obtain ⟨a, b⟩ := y
        have hl := scan_len u a b hs
        have hq : qwL (34 :: u) = a.length + 2 := by unfold qwL; simp only [if_pos, hs]
        have ht : textL (34 :: u) = (unjq a).map fun x => (x, b) := by unfold textL; simp only [if_pos, hs]
        have htk : (34 :: u).take (a.length + 2) = 34 :: a ++ [34] := by
          rw [hl]
          show 34 :: (a ++ 34 :: b).take (a.length + 1) = 34 :: (a ++ [34])
          rw [show a ++ 34 :: b = (a ++ [34]) ++ b by simp, List.take_append_of_le_length (by simp), List.take_of_length_le (by simp)]
        have hdr : (34 :: u).drop (a.length + 2) = b := by
          rw [hl]
          show (a ++ 34 :: b).drop (a.length + 1) = b
          rw [show a ++ 34 :: b = (a ++ [34]) ++ b by simp, List.drop_append_of_le_length (by simp), List.drop_of_length_le (by simp)]
          rfl
        rw [hq, ht, htk, hdr, unjson_q]
        refine ⟨by rw [hl]; simp, fun x r h => ?_, fun h => ?_⟩
        · cases hu : unjq a with
          | none => rw [hu] at h; cases h
          | some y => rw [hu] at h; cases h; exact ⟨rfl, rfl⟩
        · cases hu : unjq a with
          | none => rfl
          | some y => rw [hu] at h; cases h
    · have hq : qwL (c :: u) = 0 := by unfold qwL; exact if_neg hc
      have ht : textL (c :: u) = none := by unfold textL; exact if_neg hc
      rw [hq]
      refine ⟨Nat.zero_le _, fun x r h => ?_, fun _ => rfl⟩
      rw [ht] at h; cases h
set_option maxRecDepth 100000 in
set_option maxHeartbeats 1000000 in
theorem ptext_any {X : Nat} {s t : Bt} {d : Nat} {w : World} (h : PS X s d w) (ht : blanksL s = t) (hs : t.length ≤ 100000) :
    Calls Tryd.prog 55 #[.pointer (some ⟨X, 0, none⟩)] w fun e w' => ∃ x ok r, e = .returned (.tuple #[.string (bs x), .bool ok]) ∧ textL t = (if ok then some (x, r) else none) ∧ PS X r d w' ∧ Off (fun b => b = X) w w' := by
  have HSK : Hid (∀ W, PS X s d W → Calls Tryd.prog 35 #[.pointer (some ⟨X, 0, none⟩)] W fun e w' => e = .returned (.tuple #[]) ∧ PS X t d w' ∧ Off (fun b => b = X) W w') := Lib.hid (fun W hW => pskip_any hW ht)
  have HW := Lib.hid (fun W => qwidth_any t W (by omega))
  obtain ⟨hq1, hq2, hq3⟩ := text_qw t
  obtain ⟨q, hq⟩ : ∃ q, qwL t = q := ⟨_, rfl⟩
  rw [hq] at HW hq1 hq2 hq3
  obtain ⟨y, hy⟩ : ∃ y, t.take q = y := ⟨_, rfl⟩
  obtain ⟨r, hr⟩ : ∃ y, t.drop q = y := ⟨_, rfl⟩
  rw [hy] at hq2 hq3
  rw [hr] at hq2
  have hsl1 := slice_front t q q rfl hq1 y hy
  have hsl2 := slice_tail t q q rfl hq1 r hr
  have hyl : y.length ≤ t.length := by rw [← hy, List.length_take]; omega
  have HU : Hid (∀ W, Tabs W → Calls Tryd.prog 70 #[.string (bs y)] W (UnjOut (unjson y) W)) := Lib.hid (fun W hW => by
    have := unjson_any (bs y) W (by rw [bs_size]; omega) hW
    rw [bs_list] at this
    exact this)
  have hsz : (bs t).size = t.length := bs_size t
  obtain ⟨n, hn⟩ : ∃ n, t.length = n := ⟨_, rfl⟩
  rw [hn] at hsz hq1
  have i1' : (0 : Int) ≤ (q : Int) := by omega
  have i2' : (q : Int) ≤ (n : Int) := by omega
  have H0 := Lib.hid h
  have HQ2 := Lib.hid hq2
  have HQ3 := Lib.hid hq3
  clear h ht hq hy hr hq2 hq3 hyl hn hs
  cases hu : unjson y with
  | none =>
    rw [hu] at HU
    have HE : Hid (textL t = none) := Lib.hid (by
      cases hx : textL t with
      | none => rfl
      | some z => obtain ⟨x', r'⟩ := z; have := (HQ2.out x' r' hx).1; rw [hu] at this; cases this)
    clear hu
    go_enter Tryd.func55, Tryd.ntmps55
    go_wp2_with (first
      | (go_at_call 35; (with_reducible refine (HSK.out _ H0.out).mono ?_); rintro e w1 ⟨rfl, h1, o1⟩
         have c0 := h1.c0
         have H1 := Lib.hid h1
         have HO1 := Lib.hid o1
         clear h1 o1)
      | (go_at_call 69; (with_reducible refine (HW.out _).mono ?_); rintro e w2 ⟨rfl, rfl⟩)
      | (go_at_call 70; (with_reducible refine (HU.out _ H1.out.tabs).mono ?_); rintro e w3 ⟨rfl, b3⟩
         have h3 := H1.out.below b3
         have d0 := h3.c0
         have zf := h3.free 0
         have H3 := Lib.hid (h3.set0 r)
         have HO := Lib.hid ((HO1.out.trans (Off.of_below b3) (fun _ h => h.elim)).trans (off_set7 w3 X 0 (.string (bs r))) (fun _ h => .inl h))
         clear h3))
    go_ret2
    exact ⟨[], false, r, rfl, HE.out, H3.out, HO.out⟩
  | some x =>
    rw [hu] at HU
    have HE : Hid (textL t = some (x, r)) := Lib.hid (by
      cases hx : textL t with
      | none => have := HQ3.out hx; rw [hu] at this; cases this
      | some z =>
        obtain ⟨x', r'⟩ := z
        have h := HQ2.out x' r' hx
        rw [hu] at h
        rw [Option.some.inj h.1, h.2])
    clear hu
    go_enter Tryd.func55, Tryd.ntmps55
    go_wp2_with (first
      | (go_at_call 35; (with_reducible refine (HSK.out _ H0.out).mono ?_); rintro e w1 ⟨rfl, h1, o1⟩
         have c0 := h1.c0
         have H1 := Lib.hid h1
         have HO1 := Lib.hid o1
         clear h1 o1)
      | (go_at_call 69; (with_reducible refine (HW.out _).mono ?_); rintro e w2 ⟨rfl, rfl⟩)
      | (go_at_call 70; (with_reducible refine (HU.out _ H1.out.tabs).mono ?_); rintro e w3 ⟨rfl, b3⟩
         have h3 := H1.out.below b3
         have d0 := h3.c0
         have zf := h3.free 0
         have H3 := Lib.hid (h3.set0 r)
         have HO := Lib.hid ((HO1.out.trans (Off.of_below b3) (fun _ h => h.elim)).trans (off_set7 w3 X 0 (.string (bs r))) (fun _ h => .inl h))
         clear h3))
    go_ret2
    exact ⟨x, true, r, rfl, HE.out, H3.out, HO.out⟩
/-! ### Numbers -/
theorem digF_end {s r : Bt} (h : digF s = some r) : ∃ k, k ≤ s.length ∧ r = s.drop k := by
  unfold digF at h
  split at h
  · cases h
  · exact ⟨dgL s, dg_le s, (Option.some.inj h).symm⟩
theorem numF_end {s r : Bt} (h : numF s = some r) : ∃ k, k ≤ s.length ∧ r = s.drop k := by
  have hw : ∀ {a b : Bt}, wholeF a = some b → ∃ k, k ≤ a.length ∧ b = a.drop k := by
    intro a b h
    unfold wholeF at h
    split at h
    · rename_i h48
      exact ⟨1, by cases a with | nil => cases h48 | cons c t => simp, (Option.some.inj h).symm⟩
    · exact digF_end h
  have hf : ∀ {a b : Bt}, fracF a = some b → ∃ k, k ≤ a.length ∧ b = a.drop k := by
    intro a b h
    unfold fracF at h
    split at h
    · obtain ⟨k, hk, e⟩ := digF_end h
      rename_i h46
      rw [List.length_drop] at hk
      have : 1 ≤ a.length := by cases a with | nil => cases h46 | cons c t => simp
      exact ⟨1 + k, by omega, by rw [e, List.drop_drop]⟩
    · exact ⟨0, Nat.zero_le _, (Option.some.inj h).symm⟩
  have he : ∀ {a b : Bt}, expF a = some b → ∃ k, k ≤ a.length ∧ b = a.drop k := by
    intro a b h
    unfold expF at h
    split at h
    · obtain ⟨k, hk, e⟩ := digF_end h
      rename_i hh
      rw [List.length_drop] at hk
      have h1 : 1 ≤ a.length := by cases a with | nil => simp at hh | cons c t => simp
      have h2 := exps_le (a.drop 1)
      rw [List.length_drop] at h2
      exact ⟨1 + expSL (a.drop 1) + k, by omega, by rw [e, List.drop_drop]⟩
    · exact ⟨0, Nat.zero_le _, (Option.some.inj h).symm⟩
  have hs : signL s ≤ s.length := by
    unfold signL
    cases s with
    | nil => simp
    | cons c t => split <;> simp
  unfold numF at h
  split at h
  · cases h
  · rename_i a ha
    split at h
    · cases h
    · rename_i b hb
      obtain ⟨k1, l1, e1⟩ := hw ha
      obtain ⟨k2, l2, e2⟩ := hf hb
      obtain ⟨k3, l3, e3⟩ := he h
      rw [List.length_drop] at l1
      rw [e1, List.length_drop, List.length_drop] at l2
      rw [e2, e1, List.length_drop, List.length_drop, List.length_drop] at l3
      exact ⟨signL s + k1 + k2 + k3, by omega, by rw [e3, e2, e1, List.drop_drop, List.drop_drop, List.drop_drop]; congr 1; omega⟩
set_option maxRecDepth 100000 in
theorem pclone_any (s : Bt) (w : World) (hs : s.length ≤ 1000000000) : Calls Tryd.prog 33 #[.string (bs s)] w fun e w' => e = .returned (.string (bs s)) ∧ Below w.heap.size w w' := by
  have H := Lib.hid (fun W => libClone (bs s) W (by rw [bs_size]; omega))
  go_enter Tryd.func33, Tryd.ntmps33
  go_wp2_with (go_at_call 51; (with_reducible refine (H.out _).mono ?_); rintro e w1 ⟨rfl, b1⟩)
  go_ret
  exact ⟨rfl, b1⟩
set_option maxRecDepth 100000 in
theorem pnum_none {X : Nat} {s t : Bt} {d : Nat} {w : World} (h : PS X s d w) (ht : blanksL s = t) (hf : numF t = none) :
    Calls Tryd.prog 54 #[.pointer (some ⟨X, 0, none⟩)] w fun e w' => e = .returned (.tuple #[.string ⟨#[]⟩, .bool false]) ∧ PS X t d w' ∧ Off (fun b => b = X) w w' := by
  have HSK : Hid (∀ W, PS X s d W → Calls Tryd.prog 35 #[.pointer (some ⟨X, 0, none⟩)] W fun e w' => e = .returned (.tuple #[]) ∧ PS X t d w' ∧ Off (fun b => b = X) W w') := Lib.hid (fun W hW => pskip_any hW ht)
  have HN := Lib.hid (fun W => bnum_any t W)
  rw [hf] at HN
  have H0 := Lib.hid h
  clear h ht hf
  go_enter Tryd.func54, Tryd.ntmps54
  go_wp2_with (first
    | (go_at_call 35; (with_reducible refine (HSK.out _ H0.out).mono ?_); rintro e w1 ⟨rfl, h1, o1⟩
       have c0 := h1.c0
       have H1 := Lib.hid h1
       have HO1 := Lib.hid o1
       clear h1 o1)
    | (go_at_call 58; (with_reducible refine (HN.out _).mono ?_); rintro e w2 ⟨rfl, b2⟩))
  go_ret2
  exact ⟨rfl, H1.out.below b2, HO1.out.trans (Off.of_below b2) (fun _ h => h.elim)⟩
set_option maxRecDepth 100000 in
set_option maxHeartbeats 1000000 in
theorem pnum_some {X : Nat} {s t r : Bt} {d : Nat} {w : World} (h : PS X s d w) (ht : blanksL s = t) (hf : numF t = some r) (hs : t.length ≤ 1000000000) :
    Calls Tryd.prog 54 #[.pointer (some ⟨X, 0, none⟩)] w fun e w' => e = .returned (.tuple #[.string (bs (t.take (t.length - r.length))), .bool true]) ∧ PS X r d w' ∧ Off (fun b => b = X) w w' := by
  have HSK : Hid (∀ W, PS X s d W → Calls Tryd.prog 35 #[.pointer (some ⟨X, 0, none⟩)] W fun e w' => e = .returned (.tuple #[]) ∧ PS X t d w' ∧ Off (fun b => b = X) W w') := Lib.hid (fun W hW => pskip_any hW ht)
  have HN := Lib.hid (fun W => bnum_any t W)
  rw [hf] at HN
  obtain ⟨k, hk, e⟩ := numF_end hf
  have hrl : r.length = t.length - k := by rw [e, List.length_drop]
  obtain ⟨y, hy⟩ : ∃ y, t.take (t.length - r.length) = y := ⟨_, rfl⟩
  have hsl := slice_front t (t.length - r.length) ((t.length : Int) - (r.length : Int)) (by omega) (by omega) y hy
  have HCL := Lib.hid (fun W => pclone_any y W (by rw [← hy, List.length_take]; omega))
  have hsz := bs_size t
  have hrz := bs_size r
  rw [hy]
  obtain ⟨n, hn⟩ : ∃ n, t.length = n := ⟨_, rfl⟩
  obtain ⟨m, hm⟩ : ∃ n, r.length = n := ⟨_, rfl⟩
  rw [hn, hm] at hsl
  rw [hn] at hsz hs
  rw [hm] at hrz
  have hmn : m ≤ n := by omega
  have hwr : IntKind.i64.wrap ((n : Int) - (m : Int)) = (n : Int) - (m : Int) := IntWalk.i64_in _ (by omega)
  have i1' : (0 : Int) ≤ (n : Int) - (m : Int) := by omega
  have i2' : (n : Int) - (m : Int) ≤ (n : Int) := by omega
  have H0 := Lib.hid h
  clear h ht hf e hk hrl hy hn hm
  go_enter Tryd.func54, Tryd.ntmps54
  go_wp2_with (first
    | (go_at_call 35; (with_reducible refine (HSK.out _ H0.out).mono ?_); rintro e w1 ⟨rfl, h1, o1⟩
       have c0 := h1.c0
       have H1 := Lib.hid h1
       have HO1 := Lib.hid o1
       clear h1 o1)
    | (go_at_call 58; (with_reducible refine (HN.out _).mono ?_); rintro e w2 ⟨rfl, b2⟩
       have H2 := Lib.hid (H1.out.below b2)
       have HO2 := Lib.hid (HO1.out.trans (Off.of_below b2) (fun _ h => h.elim))
       have c2 := H2.out.c0))
  have D0 : w2.drew.cell? ⟨X, 0, none⟩ = some (.string (bs t)) := c2
  have HD : Hid (PS X t d w2.drew) := Lib.hid (H2.out.drewN 1)
  have HOD : Hid (Off (fun b => b = X) w w2.drew) := Lib.hid (HO2.out.drewN 1)
  clear c0 c2
  go_region_with (go_at_call 33; (with_reducible refine (HCL.out _).mono ?_); rintro e w5 ⟨rfl, b5⟩
                  have h5 := HD.out.below b5
                  have zf := h5.free 0
                  have z0 := h5.c0
                  have H5 := Lib.hid (h5.set0 r)
                  have HO := Lib.hid ((HOD.out.trans (Off.of_below b5) (fun _ h => h.elim)).trans (off_set7 w5 X 0 (.string (bs r))) (fun _ h => .inl h))
                  clear h5)
  all_goals go_wp2
  all_goals go_ret2
  all_goals exact ⟨rfl, H5.out, HO.out⟩
end Go.Proofs.YtchgelfomnbpaaaDoor
