/-
  The walk of the program's Key. Conditions: as it says.
-/
import Derived.Test.YtkgmkblcofedbaaDoorSH
namespace Go.Proofs.YtkgmkblcofedbaaDoor
open Go.RowKit
open Go.Lib

theorem Tryd.infoS : (Tryd.prog.info? 22).map (fun i => (i.zero, i.size, i.bytes)) = some (some (.slice none 0 0), 1, 24) := by kernel_rfl
/-- The slice at A reads as these texts. -/
def RT (w : World) (A : Option Addr) (ps : List ByteArray) : Prop :=
  0 < ps.length → ∃ b off, A = some ⟨b, off, none⟩ ∧ b < w.heap.size ∧ ∀ j, j < ps.length → w.cell? ⟨b, off + j, none⟩ = some (.string (ps.getD j default))
theorem RT.below {w w' : World} {A : Option Addr} {ps : List ByteArray} {B : Nat} (h : RT w A ps) (hB : w.heap.size ≤ B) (hb : Below B w w') : RT w' A ps := fun hz => by
  obtain ⟨b, off, rfl, hlt, hc⟩ := h hz
  have := hb.size
  exact ⟨b, off, rfl, by omega, fun j hj => (hb.cell (p := ⟨b, off + j, none⟩) (by show b < B; omega)).trans (hc j hj)⟩
def NoS : Nat → Prop := fun _ => False
/-- A list of pieces of the call's own, at block g. -/
def OwnP (w : World) (base g cap n : Nat) (pcs : List (List UInt8)) : Prop :=
  ∃ svs : List Value, w.ownsRow base 22 1 (.slice (some ⟨g, 0, none⟩) n cap) n svs ∧ pcs.length = n ∧ svs.length = n ∧ ∀ j, j < n → ∃ Aj cj, svs[j]? = some (.slice Aj (pcs.getD j []).length cj) ∧ (pcs.getD j []).length ≤ cj ∧ RS (fun k => k = g) w Aj (pcs.getD j [])
theorem OwnP.lt {w : World} {base g cap n : Nat} {pcs : List (List UInt8)} (h : OwnP w base g cap n pcs) : base ≤ g ∧ g < w.heap.size := by
  obtain ⟨svs, h1, _⟩ := h
  exact World.ownsRow.lt h1 g rfl
theorem OwnP.parts {w : World} {base g cap n : Nat} {pcs : List (List UInt8)} (h : OwnP w base g cap n pcs) : PS (fun _ => False) w (some ⟨g, 0, none⟩) pcs := by
  have hlt := h.lt
  obtain ⟨svs, h1, h2, h3, h4⟩ := h
  refine fun _ => ⟨g, 0, rfl, hlt.2, fun h => h, fun j hj => ?_⟩
  obtain ⟨Aj, cj, e1, e2, e3⟩ := h4 j (by omega)
  exact ⟨Aj, cj, by rw [Nat.zero_add, World.ownsRow.cellAt h1 j (by omega), e1], e2, e3.mono (fun _ h => h.elim)⟩
theorem OwnP.below {w w' : World} {base g cap n : Nat} {pcs : List (List UInt8)} (h : OwnP w base g cap n pcs) (hb : Below w.heap.size w w') : OwnP w' base g cap n pcs := by
  obtain ⟨svs, h1, h2, h3, h4⟩ := h
  refine ⟨svs, World.ownsRow.kept h1 (row := none) ⟨hb.os, hb.tape, hb.output, hb.size, fun k hk _ => hb.block k hk⟩ (.inr (by simp [Value.ownBlock])), h2, h3, fun j hj => ?_⟩
  obtain ⟨Aj, cj, e1, e2, e3⟩ := h4 j hj
  exact ⟨Aj, cj, e1, e2, e3.kx (KX.below _ hb)⟩
/-- A text's bytes in memory of the call's own. -/
theorem conv_world (w : World) (s : ByteArray) : ∃ C W3, (convert 9 22 (.string s)).run Tryd.prog w = .ok (.slice (some ⟨w.heap.size, 0, none⟩) s.size C) W3 ∧ s.data.toList.length ≤ C ∧ Below w.heap.size w W3 ∧ RS NoS W3 (some ⟨w.heap.size, 0, none⟩) s.data.toList ∧ W3.heap.size = w.heap.size + 1 := by
  refine ⟨_, _, Lib.run_convert_string_bytes w 9 22 5 s Tryd.underlying9 Tryd.underlying22 Tryd.underlying5, ?_, ?_, ?_, ?_⟩
  · have := grownCap_ge w s.size 0 5; simpa using this
  · exact ⟨rfl, rfl, rfl, by rw [bytesWorld_size]; omega, fun k hk => bytesWorld_at_old w _ s k hk⟩
  · intro _
    refine ⟨w.heap.size, 0, rfl, by rw [bytesWorld_size]; omega, fun h => h, fun j hj => ?_⟩
    rw [Nat.zero_add, bytesWorld_cell w _ s j (by simpa using hj)]
    rfl
  · exact bytesWorld_size _ _ _
/-- Two pieces more, where there is room. -/
theorem appP {ops : Array Oper} {rest : List Oper} {o : Oper} {a : Act} {Q : Exit → Act → World → Prop} (hgd : o.guard = none) (s x : Operand)
    (ho : o.op = .call { callee := .builtin .append, args := #[s, x], argTypes := #[39, 39] }) (w w0 : World) (B base g cap n : Nat) (pcs : List (List UInt8)) (p q : List UInt8) (Ap Aq : Option Addr) (lp lq cp cq : Nat)
    (hs : a.eval s = .slice (some ⟨g, 0, none⟩) n cap) (hown : OwnP w base g cap n pcs) (hx : a.eval x = .slice (some ⟨w.heap.size, 0, none⟩) 2 2) (hroom : n + 2 ≤ cap) (hB : B ≤ base) (hb : Below B w0 w)
    (hlp : p.length = lp) (hlq : q.length = lq) (hcp : lp ≤ cp) (hcq : lq ≤ cq) (hrp : RS (fun k => k = g) w Ap p) (hrq : RS (fun k => k = g) w Aq q)
    (h : ∀ w', OwnP w' base g cap (n + 2) (pcs ++ [p, q]) → Below B w0 w' → wpList Tryd.prog ops Q rest (a.put o.dst (.slice (some ⟨g, 0, none⟩) (n + 2) cap)) w') :
    wpList Tryd.prog ops Q (o :: rest) a (w.alloc (.cells #[.slice Ap lp cp, .slice Aq lq cq] 22)) := by
  have hlt := hown.lt
  obtain ⟨i0, hi, hz0, hz1, hz2⟩ := info_parts Tryd.infoS
  obtain ⟨svs, h1, h2, h3, h4⟩ := hown
  refine wpList_append_fits _ hgd s x 39 ho base 22 i0 1 Tryd.underlying39 hi hz1 g n cap svs hs (World.ownsRow.alloc h1 _) ⟨w.heap.size, 0, none⟩ 2 2 [.slice Ap lp cp, .slice Aq lq cq] hx rfl (fun j u hj => ?_) (fun u hu => by simp at hu; rcases hu with rfl | rfl <;> rfl) hroom ?_
  · have hr := World.rowIs_alloc w #[.slice Ap lp cp, .slice Aq lq cq] 22 (fun j => if j = 0 then .slice Ap lp cp else .slice Aq lq cq) (fun i hi => by
      rcases (by simp at hi; omega : i = 0 ∨ i = 1) with rfl | rfl <;> rfl)
    have hj2 : j < 2 := (List.getElem?_eq_some_iff.1 hj).1
    rw [Addr.add_mid, Nat.zero_add, hr.cell hj2]
    rcases (by omega : j = 0 ∨ j = 1) with rfl | rfl <;> exact hj
  · intro w' hown' hgrow
    have hold : ∀ k, k < w.heap.size → k ≠ g → w'.heap[k]? = w.heap[k]? := fun k hk hne => (hgrow.block k (by simp; omega) (fun e => hne (by cases e; rfl))).trans (Below.heap_alloc w _ k hk)
    have hsz : w.heap.size ≤ w'.heap.size := by have := hgrow.size; simp at this; omega
    have hkx : ∀ {A : Option Addr} {l : List UInt8}, RS (fun k => k = g) w A l → RS (fun k => k = g) w' A l := fun {A l} h => fun hz => by
      obtain ⟨b, off, e, hlt, hs', hc⟩ := h hz
      exact ⟨b, off, e, by omega, hs', fun j hj => (World.cell?_of_block (w := w) (hold b hlt hs')).trans (hc j hj)⟩
    refine h w' ⟨svs ++ [.slice Ap lp cp, .slice Aq lq cq], hown', by rw [List.length_append, h2]; rfl, by rw [List.length_append, h3]; rfl, fun j hj => ?_⟩ ((hb.alloc (by omega) _).grown hgrow (by simp; omega) (fun k hk => by cases hk; omega))
    by_cases hjn : j < n
    · obtain ⟨Aj, cj, e1, e2, e3⟩ := h4 j hjn
      have eg : (pcs ++ [p, q]).getD j [] = pcs.getD j [] := by simp only [List.getD]; rw [List.getElem?_append_left (by omega)]
      rw [eg]
      exact ⟨Aj, cj, by rw [List.getElem?_append_left (by omega)]; exact e1, e2, hkx e3⟩
    · rcases (by omega : j = n ∨ j = n + 1) with rfl | rfl
      · have eg : (pcs ++ [p, q]).getD j [] = p := by simp only [List.getD]; rw [List.getElem?_append_right (by omega), h2, Nat.sub_self]; rfl
        rw [eg]
        exact ⟨Ap, cp, by rw [List.getElem?_append_right (by omega), h3, Nat.sub_self, hlp]; rfl, by omega, hkx hrp⟩
      · have eg : (pcs ++ [p, q]).getD (n + 1) [] = q := by simp only [List.getD]; rw [List.getElem?_append_right (by omega), h2, show n + 1 - n = 1 by omega]; rfl
        rw [eg]
        exact ⟨Aq, cq, by rw [List.getElem?_append_right (by omega), h3, show n + 1 - n = 1 by omega, hlq]; rfl, by omega, hkx hrq⟩
def pcsOf (ps : List ByteArray) : List (List UInt8) := ps.flatMap fun p => [be8 p.data.toList.length, p.data.toList]
def txts (ps : List ByteArray) : List (List UInt8) := ps.map fun p => p.data.toList
theorem pcs_flat (ps : List ByteArray) : (pcsOf ps).flatten = keyB (txts ps) := by
  induction ps with
  | nil => rfl
  | cons p ps ih =>
    simp only [pcsOf, txts, keyB, List.flatMap_cons, List.map_cons, List.flatten_append] at ih ⊢
    rw [ih]
    simp
theorem pcs_len (ps : List ByteArray) : (pcsOf ps).length = 2 * ps.length := by
  induction ps with
  | nil => rfl
  | cons p ps ih => simp only [pcsOf, List.flatMap_cons, List.length_append, List.length_cons, List.length_nil] at ih ⊢; omega
theorem pcs_next (ps : List ByteArray) (k : Nat) (p : ByteArray) (hk : k < ps.length) (hp : ps.getD k default = p) : pcsOf (ps.take (k + 1)) = pcsOf (ps.take k) ++ [be8 p.data.toList.length, p.data.toList] := by
  have e : ps[k] = p := by rw [← hp]; simp [List.getD, hk]
  rw [List.take_succ_eq_append_getElem hk, e]
  simp [pcsOf]
theorem key_len (ps : List ByteArray) (M : Nat) (h : ∀ p ∈ ps, p.size ≤ M) : (keyB (txts ps)).length ≤ ps.length * (M + 8) := by
  induction ps with
  | nil => simp [keyB, txts]
  | cons p ps ih =>
    have h1 := ih (fun q hq => h q (List.mem_cons_of_mem _ hq))
    have h2 := h p (List.mem_cons_self ..)
    simp only [keyB, txts, List.map_cons, List.flatMap_cons, List.length_append, be8_length, List.length_cons] at h1 ⊢
    have h3 : p.data.toList.length = p.size := by simp
    rw [Nat.add_mul]
    omega
set_option maxRecDepth 100000 in
set_option maxHeartbeats 4000000 in
theorem key_any (A : Option Addr) (c : Nat) (ps : List ByteArray) (hps : ps.length ≤ 1000) (hsz : ∀ p ∈ ps, p.size ≤ 100000) (n : Nat) (hn : ps.length = n) (w : World) (hE : Env w) (hRT : RT w A ps) :
    Calls Tryd.prog 12 #[.slice A n c] w fun e w' => e = .returned (.string ⟨(hexP (sumP (keyB (txts ps)))).toArray⟩) ∧ Below w.heap.size w w' := by
  have hkl := key_len ps 100000 hsz
  obtain ⟨S, hS⟩ : ∃ S : ByteArray, ⟨(hexP (sumP (keyB (txts ps)))).toArray⟩ = S := ⟨_, rfl⟩
  have hhex : ∀ (V : World) (g cp : Nat), Env V → PS (fun _ => False) V (some ⟨g, 0, none⟩) (pcsOf ps) → Calls Tryd.prog 10 #[.slice (some ⟨g, 0, none⟩) (2 * n) cp] V fun e w' => e = .returned (.string S) ∧ Below V.heap.size V w' := fun V g cp hEV hP => by
    have := hex_any (some ⟨g, 0, none⟩) cp (pcsOf ps) (by rw [pcs_flat]; omega) (by rw [pcs_len]; omega) (2 * n) (by rw [pcs_len, hn]) V hEV hP
    rw [pcs_flat, hS] at this
    exact this
  rw [hS]
  have HN := Lib.hid hn
  have HH := Lib.hid hhex
  have hn1 : n ≤ 1000 := by omega
  clear hS hkl hhex hn hps
  obtain ⟨i0, hi, hz0, hz1, hz2⟩ := info_parts Tryd.infoS
  go_enter Tryd.func12, Tryd.ntmps12
  go_wp2_with (refine wpList_make_own _ rfl _ _ 39 rfl w.heap.size 22 i0 (.slice none 0 0) 1 Tryd.underlying39 hi hz0 hz1 .i64 .i64 _ (2 * n) rfl rfl (by omega) (by rw [hz2]; omega) (by unfold maxLen; omega) (Nat.le_refl _) ?_)
  intro w1 hown1 hg1
  have hb1 : Below w.heap.size w w1 := (Below.refl _ _).grown hg1 (Nat.le_refl _) (fun k hk => by cases hk)
  have hP1 : OwnP w1 w.heap.size w.heap.size (2 * n) 0 [] := ⟨[], hown1, rfl, rfl, fun j hj => absurd hj (by omega)⟩
  clear hown1 hg1 hi hz0 hz1 hz2
  go_wp2
  go_loopw [3, 12] (fun tv ti wr => ∃ k : Nat, k ≤ n ∧ ti = .int .i64 k ∧ tv = .slice (some ⟨w.heap.size, 0, none⟩) (2 * k) (2 * n) ∧ OwnP wr w.heap.size w.heap.size (2 * n) (2 * k) (pcsOf (ps.take k)) ∧ Below w.heap.size w wr) (fun _ ti _ => n - (RowKit.intOf ti).toNat)
  case atStart => exact ⟨0, by omega, rfl, rfl, hP1, hb1⟩
  case round =>
    clear hP1 hb1
    obtain ⟨k, hk, rfl, rfl, hown, hbr⟩ := hrel
    have hgl := hown.lt
    by_cases hkn : k < n
    · obtain ⟨b, off, rfl, hbl, hcs⟩ := (hRT.below (Nat.le_refl _) hbr) (by rw [HN.out]; omega)
      have ck := hcs k (by rw [HN.out]; exact hkn)
      obtain ⟨p, hp⟩ : ∃ p, ps.getD k default = p := ⟨_, rfl⟩
      have hkp : k < ps.length := by rw [HN.out]; exact hkn
      have hpl := hsz p (by rw [← hp]; simp [List.getD, hkp])
      have HPN := Lib.hid (show pcsOf (ps.take (k + 1)) = pcsOf (ps.take k) ++ [be8 p.size, p.data.toList] by rw [pcs_next ps k p hkp hp, show p.data.toList.length = p.size by simp])
      rw [hp] at ck
      have HO := Lib.hid hown
      obtain ⟨pk, hpk⟩ : ∃ q, pcsOf (ps.take k) = q := ⟨_, rfl⟩
      rw [hpk] at HO HPN
      obtain ⟨K2, hK2⟩ : ∃ q, 2 * k = q := ⟨_, rfl⟩
      obtain ⟨N2, hN2⟩ : ∃ q, 2 * n = q := ⟨_, rfl⟩
      rw [hK2, hN2] at HO ⊢
      have hroom : K2 + 2 ≤ N2 := by omega
      have HK2 := Lib.hid hK2
      have HN2 := Lib.hid hN2
      have hwz := hbr.size
      clear hcs hp hown hpk hkp hK2 hN2
      go_wp2_with fail
      refine (eight_any p.size _).mono ?_
      rintro e w2 ⟨rfl, hr8, hb8⟩
      obtain ⟨b8, hb8e⟩ : ∃ q, wr.heap.size = q := ⟨_, rfl⟩
      have hb8ge : wr.heap.size ≤ b8 := by omega
      rw [hb8e] at hr8
      have HB8 := Lib.hid hb8e
      rw [hb8e]
      clear hb8e
      obtain ⟨C, W3, hcv, hC, hb3, hrs3, hs3⟩ := conv_world w2 p
      have hw2 := hb8.size
      have hb8lt := hr8.lt
      have hOW3 := Lib.hid ((HO.out.below hb8).below hb3)
      have hbW3 : Below w.heap.size w W3 := (hbr.trans (hb8.mono hwz)).trans (hb3.mono (by omega))
      have hRS8 : RS (fun j => j = w.heap.size) W3 (some ⟨b8, 0, none⟩) (be8 p.size) := fun _ => ⟨b8, 0, rfl, by omega, by show b8 ≠ w.heap.size; omega, fun j hj => by
        rw [be8_length] at hj
        rw [Nat.zero_add]
        exact (hb3.cell (p := ⟨b8, j, none⟩) hb8lt).trans (hr8.cell hj)⟩
      have hRSp : RS (fun j => j = w.heap.size) W3 (some ⟨w2.heap.size, 0, none⟩) p.data.toList := fun hz => by
        obtain ⟨b', off', e, hlt, _, hc⟩ := hrs3 hz
        cases e
        exact ⟨_, _, rfl, hlt, by omega, hc⟩
      have hs3' : w2.heap.size < W3.heap.size := by omega
      clear hs3
      have HR8 := Lib.hid hRS8
      have HRP := Lib.hid hRSp
      have hC2 : p.size ≤ C := by simpa using hC
      clear hr8 hb8 hb3 hrs3 hRS8 hRSp hC hbr
      go_wp2_with (at_builtin; refine appP rfl _ _ rfl W3 w w.heap.size w.heap.size w.heap.size N2 K2 pk (be8 p.size) p.data.toList (some ⟨b8, 0, none⟩) (some ⟨w2.heap.size, 0, none⟩) 8 p.size 8 C rfl (by exact hOW3.out) rfl hroom (Nat.le_refl _) hbW3 (be8_length _) (by simp) (by omega) hC2 HR8.out HRP.out ?_)
      intro w4 hown4 hb4
      go_wp2
      go_roundw
      case rel => exact ⟨k + 1, by omega, by go_num, by rw [← HK2.out, ← HN2.out]; rfl, by rw [HPN.out, show 2 * (k + 1) = K2 + 2 by have := HK2.out; omega]; exact hown4, hb4⟩
      case measure => simp [RowKit.intOf]; omega
    · obtain rfl : k = n := by omega
      have hP := hown.parts
      rw [List.take_of_length_le (by rw [HN.out]; exact Nat.le_refl _)] at hP
      have hcall := HH.out wr w.heap.size (2 * k) (hE.after hbr) hP
      clear hown hP
      go_wp2_with (go_at_call 10; (with_reducible refine hcall.mono ?_); rintro e w2 ⟨rfl, hb2⟩)
      go_ret
      exact ⟨rfl, hbr.trans (hb2.mono hbr.size)⟩
end Go.Proofs.YtkgmkblcofedbaaDoor
