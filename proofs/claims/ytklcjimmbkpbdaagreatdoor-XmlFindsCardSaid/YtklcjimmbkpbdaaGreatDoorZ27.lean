/-
  What an element's content is read from: data of CDATA, texts. Conditions: texts of modest length; the library's variable MaxLen holds an int.
-/
import Derived.Test.YtklcjimmbkpbdaaGreatDoorZ25
import Derived.Test.YtklcjimmbkpbdaaGreatDoorZ26
namespace Go.Proofs.YtklcjimmbkpbdaaGreatDoor
open Go.RowKit
open Go.Lib

theorem ML.ge {C : Nat} {w w' : World} (h : ML w) (hC : 0 < C) (ho : Off (fun b => C ≤ b) w w') : ML w' := h.off ho (fun e => by omega)
set_option maxRecDepth 100000 in
set_option maxHeartbeats 4000000 in
theorem data_walk {R C : Nat} {s : Bt} {n : Nat} {sc : Value} {w : World} {T : Nat → Prop} {kv pv bv : Value} {ks : List XV} {cs : List Value} {t : Bt} (h : RS R s n sc w) (hm : ML w) (hR : 0 ≠ R) (hC : CSt C T kv pv bv ks cs t w) (hRC : R < C) (_hMC : 0 < C) (hs : s.length ≤ 100000) (hl : t.length ≤ 800000)
    (a r : Bt) (ok : Bool) (ht : (toL cdendW s = some (a, r) ∧ ok = true) ∨ (toL cdendW s = none ∧ a = s ∧ r = [] ∧ ok = false)) :
    Calls Tryz.prog 122 #[.pointer (some ⟨R, 0, none⟩), .pointer (some ⟨C, 0, none⟩)] w (fun e w' => e = .returned (.bool ok) ∧ RS R r n sc w' ∧ (∃ pv' bv', CSt C T kv pv' bv' ks cs (t ++ linesL a) w') ∧ Off (fun b => b = R ∨ C ≤ b) w w') := by
  have hal : a.length ≤ 100000 := by
    rcases ht with ⟨h1, _⟩ | ⟨_, h1, _⟩
    · have := to_len h1; omega
    · rw [h1]; exact hs
  have hll := lines_le a
  have HU : Hid (Calls Tryz.prog 97 #[.pointer (some ⟨R, 0, none⟩), .string ⟨#[93, 93, 62]⟩] w (fun e w' => e = .returned (.tuple #[.string (bs a), .bool ok]) ∧ RS R r n sc w' ∧ Off (fun b => b = R) w w')) := Lib.hid (upTo_any h hm cdendW (by decide) (by omega) a r ok ht)
  have HC := Lib.hid hC
  have HM := Lib.hid hm
  have HL := Lib.hid (fun W (hW : ML W) => lines_any a (by omega) W hW)
  obtain ⟨l, hle⟩ : ∃ l, linesL a = l := ⟨_, rfl⟩
  rw [hle] at HL hll ⊢
  have HW := Lib.hid (fun W kv pv bv (hW : CSt C T kv pv bv ks cs t W) => writeC_any hW l (by omega))
  clear h hm hC ht hle
  go_enter Tryz.func122, Tryz.ntmps122
  go_wp2_with (go_at_call 97; (with_reducible refine HU.out.mono ?_); rintro e w1 ⟨rfl, r1, o1⟩; have HR1 := Lib.hid r1; have HO1 := Lib.hid o1; clear r1 o1)
  refine wp_region_held_drew (S := fun _ => True) (by kernel_rfl) trivial (fun _ => ?_)
  have D0 : Off (fun _ => False) w1 w1.drew := ⟨rfl, rfl, rfl, Nat.le_refl _, fun _ _ _ => rfl⟩
  have R1 := HR1.out.off D0 (fun h => h)
  have M1 : ML w1.drew := (HM.out.rd hR HO1.out).off D0 (fun h => h)
  have C1 := (HC.out.off HO1.out (fun b e => by omega)).off D0 (fun _ h => h.elim)
  have O1 := HO1.out.thenB (Below.drew (Below.refl _ _))
  refine wpAnyH_take (i := 0) (v := .pointer (some ⟨C, 0, none⟩)) rfl (by kernel_rfl) (by kernel_rfl) (by kernel_rfl) (fun _ _ _ h => h) (Or.inl ⟨by rfl, by intro w hSw; clear hSw; go_simp⟩) trivial ?_
  change wpAnyH _ _ _ _ _ _ _ (Act.put _ (some 12) _) _
  try simp only [Act.put, List.setIfInBounds_toArray, List.set_cons_zero, List.set_cons_succ]
  refine wpAnyH_take (i := 1) (v := .pointer (some ⟨C, 0, none⟩)) rfl (by kernel_rfl) (by kernel_rfl) (by kernel_rfl) (fun _ _ _ h => h) (Or.inl ⟨by rfl, by intro w hSw; clear hSw; go_simp⟩) trivial ?_
  change wpAnyH _ _ _ _ _ _ _ (Act.put _ (some 13) _) _
  try simp only [Act.put, List.setIfInBounds_toArray, List.set_cons_zero, List.set_cons_succ]
  refine wpAnyH_take (i := 2) (v := .pointer (some ⟨C, 1, none⟩)) rfl (by kernel_rfl) (by kernel_rfl) (by kernel_rfl) (fun _ _ _ h => h) (Or.inl ⟨by rfl, by intro w hSw; clear hSw; go_simp⟩) trivial ?_
  change wpAnyH _ _ _ _ _ _ _ (Act.put _ (some 14) _) _
  try simp only [Act.put, List.setIfInBounds_toArray, List.set_cons_zero, List.set_cons_succ]
  refine wpAnyH_take (i := 3) (v := .string (bs a)) rfl (by kernel_rfl) (by kernel_rfl) (by kernel_rfl) (fun _ _ _ h => h) (Or.inl ⟨by rfl, by intro w hSw; clear hSw; go_simp⟩) trivial ?_
  change wpAnyH _ _ _ _ _ _ _ (Act.put _ (some 15) _) _
  try simp only [Act.put, List.setIfInBounds_toArray, List.set_cons_zero, List.set_cons_succ]
  refine wpAnyH_ready (rs := [4]) (by kernel_rfl) (by simp) ?_
  refine AllReadyH.cons (o := { dst := some 16, op := .call { callee := .value (.func 140), args := #[.tmp 15], argTypes := _ }, type := _, pos := _, after := _, guard := none }) rfl (fun K hK => ?_) AllReadyH.nil
  go_simp
  (with_reducible refine (HL.out _ M1).mono ?_)
  rintro e w2 ⟨rfl, b2⟩
  refine hK.out _ _ trivial (fun _ => ?_)
  clear hK K
  try simp only [Act.put, List.setIfInBounds_toArray, List.set_cons_zero, List.set_cons_succ]
  have R2 := R1.below b2
  have C2 := C1.below b2
  have O2 := O1.thenB b2
  clear b2 R1 M1 C1 O1 D0
  refine wpAnyH_ready (rs := [5]) (by kernel_rfl) (by simp) ?_
  refine AllReadyH.cons (o := { dst := some 17, op := .call { callee := .value (.func 66), args := #[.tmp 14, .tmp 16], argTypes := _ }, type := _, pos := _, after := _, guard := none }) rfl (fun K hK => ?_) AllReadyH.nil
  go_simp
  (with_reducible refine (HW.out _ _ _ _ C2).mono ?_)
  rintro e w3 ⟨⟨k, rfl⟩, ⟨pv', bv', C3⟩, o3⟩
  refine hK.out _ _ trivial (fun _ => ?_)
  clear hK K
  try simp only [Act.put, List.setIfInBounds_toArray, List.set_cons_zero, List.set_cons_succ]
  have R3 := R2.off o3 (fun e => by omega)
  have O3 : Off (fun b => b = R ∨ C ≤ b) w w3 := (O2.mono (fun b h => .inl h)).then (o3.mono (fun b h => .inr h))
  clear R2 C2 O2 o3
  refine wpAnyH_done (by kernel_rfl) ?_ _
  have HR3 := Lib.hid R3
  have HO3 := Lib.hid O3
  have HC3 := Lib.hid C3
  clear R3 O3 C3
  go_wp2
  go_ret
  exact ⟨rfl, HR3.out, ⟨_, _, HC3.out⟩, HO3.out⟩
/-- What is left where a text is read. -/
def CnO (R C n : Nat) (sc : Value) (T : Nat → Prop) (kv : Value) (ks : List XV) (cs : List Value) (t : Bt) (w : World) (o : Option (Bt × Bt)) (e : Ending) (w' : World) : Prop :=
  Off (fun b => b = R ∨ C ≤ b) w w' ∧ match o with
  | none => e = .returned (.bool false)
  | some (x, r) => e = .returned (.bool true) ∧ RS R r n sc w' ∧ ∃ pv' bv', CSt C T kv pv' bv' ks cs (t ++ x) w'
theorem data_any {R C : Nat} {s : Bt} {n : Nat} {sc : Value} {w : World} {T : Nat → Prop} {kv pv bv : Value} {ks : List XV} {cs : List Value} {t : Bt} (h : RS R s n sc w) (hm : ML w) (hR : 0 ≠ R) (hC : CSt C T kv pv bv ks cs t w) (hRC : R < C) (hMC : 0 < C) (hs : s.length ≤ 100000) (hl : t.length ≤ 800000) :
    Calls Tryz.prog 122 #[.pointer (some ⟨R, 0, none⟩), .pointer (some ⟨C, 0, none⟩)] w (CnO R C n sc T kv ks cs t w ((toL cdendW s).map fun x => (linesL x.1, x.2))) := by
  cases ht : toL cdendW s with
  | none =>
    refine (data_walk h hm hR hC hRC hMC hs hl s [] false (.inr ⟨ht, rfl, rfl, rfl⟩)).mono ?_
    rintro e w' ⟨rfl, _, _, ho⟩
    exact ⟨ho, rfl⟩
  | some x =>
    obtain ⟨a, r⟩ := x
    refine (data_walk h hm hR hC hRC hMC hs hl a r true (.inl ⟨ht, rfl⟩)).mono ?_
    rintro e w' ⟨rfl, hr, hc, ho⟩
    exact ⟨ho, rfl, hr, hc⟩
theorem index_lt : ∀ s : Bt, Lib.indexByte s 60 = if s.dropWhile ltN = [] then -1 else (((s.takeWhile ltN).length : Nat) : Int)
  | [] => rfl
  | c :: r => by
    have ih := index_lt r
    rw [Lib.indexByte]
    by_cases hc : c = 60
    · subst hc
      rfl
    · have hb : ltN c = true := by unfold ltN; rw [beq_false_of_ne hc]; rfl
      rw [beq_false_of_ne hc, List.dropWhile_cons_of_pos hb, List.takeWhile_cons_of_pos hb, ih]
      by_cases h0 : r.dropWhile ltN = []
      · rw [if_pos h0, if_pos h0]; rfl
      · rw [if_neg h0, if_neg h0]
        have : (((r.takeWhile ltN).length : Int) == -1) = false := by rw [beq_eq_false_iff_ne]; omega
        rw [this, List.length_cons]
        simp
theorem take_lt (s : Bt) : s.take (s.takeWhile ltN).length = s.takeWhile ltN ∧ s.drop (s.takeWhile ltN).length = s.dropWhile ltN := by
  have h := List.takeWhile_append_dropWhile (p := ltN) (l := s)
  constructor
  · conv => lhs; rw [← h]
    rw [List.take_left']
    rw [h]
  · conv => lhs; rw [← h]
    rw [List.drop_left']
    rw [h]
set_option maxRecDepth 100000 in
set_option maxHeartbeats 4000000 in
theorem text_no {R C : Nat} {s : Bt} {n : Nat} {sc : Value} {w : World} (h : RS R s n sc w) (hm : ML w) (hs : s.length ≤ 100000) (hn : (toL cdendW (s.takeWhile ltN)).isSome = true ∨ s.dropWhile ltN = []) :
    Calls Tryz.prog 124 #[.pointer (some ⟨R, 0, none⟩), .pointer (some ⟨C, 0, none⟩)] w (fun e w' => e = .returned (.bool false) ∧ w = w') := by
  have c0 := h.c0
  have HI := Lib.hid (libIndexByte (bs s) 60 w)
  rw [bs_list, show ((60 : Int).toNat.toUInt8) = 60 from rfl, index_lt] at HI
  have hx := List.takeWhile_append_dropWhile (p := ltN) (l := s)
  have hl : (s.takeWhile ltN).length ≤ s.length := (List.takeWhile_prefix ltN).length_le
  by_cases h0 : s.dropWhile ltN = []
  · rw [if_pos h0] at HI
    clear h hm hn hx hl h0
    go_enter Tryz.func124, Tryz.ntmps124
    go_wp2_with (go_at_call 141; (with_reducible refine HI.out.mono ?_); rintro e w1 ⟨rfl, rfl⟩)
    go_ret
    exact ⟨rfl, rfl⟩
  · rw [if_neg h0] at HI
    have hc := hn.resolve_right h0
    have HC : Hid (Calls Tryz.prog 90 #[.string (bs (s.takeWhile ltN)), .string ⟨#[93, 93, 62]⟩] w (fun e w' => e = .returned (.bool true) ∧ w = w')) := Lib.hid (by
      have := contL_any cdendW (s.takeWhile ltN) (by decide) (by omega) w hm
      rw [hc] at this
      exact this)
    have hsl := fun W => slice_front s (s.takeWhile ltN).length hl W
    rw [(take_lt s).1] at hsl
    generalize s.takeWhile ltN = a at *
    obtain ⟨k, hk⟩ : ∃ k, a.length = k := ⟨_, rfl⟩
    rw [hk] at HI hsl
    have hk0 : ¬ ((k : Int) < 0) := by omega
    have hk1 : (0 : Int) ≤ (k : Int) := by omega
    clear h hm hn hx hl h0 hc hk
    go_enter Tryz.func124, Tryz.ntmps124
    go_wp2_with (first
      | (go_at_call 141; (with_reducible refine HI.out.mono ?_); rintro e w1 ⟨rfl, rfl⟩)
      | (go_at_call 90; (with_reducible refine HC.out.mono ?_); rintro e w1 ⟨rfl, rfl⟩))
    go_ret
    exact ⟨rfl, rfl⟩
set_option maxRecDepth 100000 in
set_option maxHeartbeats 4000000 in
theorem text_go {R C : Nat} {s : Bt} {n : Nat} {sc : Value} {w : World} {T : Nat → Prop} {kv pv bv : Value} {ks : List XV} {cs : List Value} {t : Bt} (h : RS R s n sc w) (hm : ML w) (hC : CSt C T kv pv bv ks cs t w) (hRC : R < C) (hs : s.length ≤ 100000) (hl : t.length ≤ 800000)
    (hn : ¬ ((toL cdendW (s.takeWhile ltN)).isSome = true ∨ s.dropWhile ltN = [])) (x : Bt) (ok : Bool) (hx : (refsL (linesL (s.takeWhile ltN)) = some x ∧ ok = true) ∨ (refsL (linesL (s.takeWhile ltN)) = none ∧ x = [] ∧ ok = false)) :
    Calls Tryz.prog 124 #[.pointer (some ⟨R, 0, none⟩), .pointer (some ⟨C, 0, none⟩)] w (fun e w' => e = .returned (.bool ok) ∧ RS R (s.dropWhile ltN) n sc w' ∧ (∃ pv' bv', CSt C T kv pv' bv' ks cs (t ++ x) w') ∧ Off (fun b => b = R ∨ C ≤ b) w w') := by
  have c0 := h.c0
  have HI := Lib.hid (libIndexByte (bs s) 60 w)
  rw [bs_list, show ((60 : Int).toNat.toUInt8) = 60 from rfl, index_lt, if_neg (fun e => hn (.inr e))] at HI
  have hll : (s.takeWhile ltN).length ≤ s.length := (List.takeWhile_prefix ltN).length_le
  have hc : (toL cdendW (s.takeWhile ltN)).isSome = false := by
    cases hq : (toL cdendW (s.takeWhile ltN)).isSome with
    | false => rfl
    | true => exact absurd (.inl hq) hn
  have HC : Hid (Calls Tryz.prog 90 #[.string (bs (s.takeWhile ltN)), .string ⟨#[93, 93, 62]⟩] w (fun e w' => e = .returned (.bool false) ∧ w = w')) := Lib.hid (by
    have := contL_any cdendW (s.takeWhile ltN) (by decide) (by omega) w hm
    rw [hc] at this
    exact this)
  have HU : Hid (Calls Tryz.prog 139 #[.string (bs (s.takeWhile ltN))] w (fun e w' => e = .returned (.tuple #[.string (bs x), .bool ok]) ∧ Below w.heap.size w w')) := Lib.hid (by
    refine (unwritten_any (s.takeWhile ltN) (by omega) w hm).mono ?_
    rintro e w' ⟨rfl, hb⟩
    rcases hx with ⟨e1, e2⟩ | ⟨e1, e2, e3⟩
    · rw [e1, e2]; exact ⟨rfl, hb⟩
    · rw [e1, e2, e3]; exact ⟨rfl, hb⟩)
  have hxl : x.length ≤ 100000 := by
    rcases hx with ⟨e1, _⟩ | ⟨_, e2, _⟩
    · have h1 := refs_len _ _ x (Nat.le_refl _) e1
      have h2 := lines_le (s.takeWhile ltN)
      omega
    · rw [e2]; exact Nat.zero_le _
  have HW := Lib.hid (fun W kv pv bv (hW : CSt C T kv pv bv ks cs t W) => writeC_any hW x (by omega))
  have hsl := fun W => slice_front s (s.takeWhile ltN).length hll W
  have hsb := fun W => slice_back8 s (s.takeWhile ltN).length hll W
  rw [(take_lt s).1] at hsl
  rw [(take_lt s).2] at hsb
  generalize s.takeWhile ltN = a at *
  generalize s.dropWhile ltN = d at *
  obtain ⟨k, hk⟩ : ∃ k, a.length = k := ⟨_, rfl⟩
  rw [hk] at HI hsl hsb
  have hk0 : ¬ ((k : Int) < 0) := by omega
  have hk1 : (0 : Int) ≤ (k : Int) := by omega
  have H0 := Lib.hid h
  have HK := Lib.hid hC
  clear h hm hn hx hll hc hk hC
  go_enter Tryz.func124, Tryz.ntmps124
  go_wp2_with (first
    | (go_at_call 141; (with_reducible refine HI.out.mono ?_); rintro e w1 ⟨rfl, rfl⟩)
    | (go_at_call 90; (with_reducible refine HC.out.mono ?_); rintro e w1 ⟨rfl, rfl⟩)
    | (go_at_call 139; (with_reducible refine HU.out.mono ?_); rintro e w1 ⟨rfl, b1⟩; have HR1 := Lib.hid (H0.out.below b1); have HK1 := Lib.hid (HK.out.below b1); have HB1 := Lib.hid b1; clear b1)
    | (go_at_call 66; (with_reducible refine (HW.out _ _ _ _ HK1.out).mono ?_); rintro e w2 ⟨⟨m, rfl⟩, ⟨pv2, bv2, C2⟩, o2⟩; have r2 := HR1.out.off o2 (fun e => by omega); have c1 := r2.c0; have f1 := r2.free 0; have HR2 := Lib.hid r2; have HK2 := Lib.hid C2; have HO2 := Lib.hid (And.intro HB1.out o2); clear r2 C2 o2 HR1 HK1))
  have HR3 := Lib.hid (HR2.out.set0 d)
  have HO3 : Hid (Off (fun b => b = R ∨ C ≤ b) _ (w2.setCell ⟨R, 0, none⟩ (.string (bs d)))) := Lib.hid (((Off.ofB HO2.out.1).then (HO2.out.2.mono (fun b h => .inr h))).then ((off_set8 w2 R 0 _).mono (fun b h => .inl h)))
  have HK3 := Lib.hid (HK2.out.off (off_set8 w2 R 0 (.string (bs d))) (fun b e => by omega))
  go_ret
  exact ⟨rfl, HR3.out, ⟨_, _, HK3.out⟩, HO3.out⟩
theorem text_any8 {R C : Nat} {s : Bt} {n : Nat} {sc : Value} {w : World} {T : Nat → Prop} {kv pv bv : Value} {ks : List XV} {cs : List Value} {t : Bt} (h : RS R s n sc w) (hm : ML w) (hC : CSt C T kv pv bv ks cs t w) (hRC : R < C) (hs : s.length ≤ 100000) (hl : t.length ≤ 800000) :
    Calls Tryz.prog 124 #[.pointer (some ⟨R, 0, none⟩), .pointer (some ⟨C, 0, none⟩)] w (CnO R C n sc T kv ks cs t w (textL s)) := by
  by_cases hn : (toL cdendW (s.takeWhile ltN)).isSome = true ∨ s.dropWhile ltN = []
  · refine (text_no h hm hs hn).mono ?_
    rintro e w' ⟨rfl, rfl⟩
    refine ⟨Off.refl _ _, ?_⟩
    unfold textL
    rw [if_pos hn]
  · cases hx : refsL (linesL (s.takeWhile ltN)) with
    | none =>
      refine (text_go h hm hC hRC hs hl hn [] false (.inr ⟨hx, rfl, rfl⟩)).mono ?_
      rintro e w' ⟨rfl, _, _, ho⟩
      refine ⟨ho, ?_⟩
      unfold textL
      rw [if_neg hn, hx]
      rfl
    | some x =>
      refine (text_go h hm hC hRC hs hl hn x true (.inl ⟨hx, rfl⟩)).mono ?_
      rintro e w' ⟨rfl, hr, hc, ho⟩
      refine ⟨ho, ?_⟩
      unfold textL
      rw [if_neg hn, hx]
      exact ⟨rfl, hr, hc⟩
end Go.Proofs.YtklcjimmbkpbdaaGreatDoor
