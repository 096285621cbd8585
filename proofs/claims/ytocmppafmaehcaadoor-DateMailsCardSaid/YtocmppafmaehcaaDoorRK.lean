/-
  The walk of the document's words of layer 3. Conditions: texts of at most 300 bytes.
-/
import Derived.Test.YtocmppafmaehcaaDoorRJ
import Derived.Test.YtocmppafmaehcaaDoorRE
namespace Go.Proofs.YtocmppafmaehcaaDoor
open Go.RowKit
open Go.Lib

def InvW (l : List UInt8) (k a : Nat) (ds : List (List UInt8)) : Prop :=
  (k ≤ l.length ∧ a ≤ k ∧ wordsP l = ds ++ wordsP (l.drop a) ∧ (32 : UInt8) ∉ (l.drop a).take (k - a)) ∨ (k = l.length + 1 ∧ wordsP l = ds)
theorem word_split {l : List UInt8} {k a : Nat} (h1 : k < l.length) (h2 : a ≤ k) (hc : l[k] = 32) : l.drop a = (l.drop a).take (k - a) ++ 32 :: l.drop (k + 1) := by
  have e : (l.drop a).drop (k - a) = l.drop k := by rw [List.drop_drop]; congr 1; omega
  have e2 := List.take_append_drop (k - a) (l.drop a)
  rw [e, List.drop_eq_getElem_cons h1, hc] at e2
  exact e2.symm
theorem inv_blank {l : List UInt8} {k a : Nat} {ds : List (List UInt8)} (h : InvW l k a ds) (h1 : k < l.length) (hc : l[k] = 32) : InvW l (k + 1) (k + 1) (ds ++ [(l.drop a).take (k - a)]) := by
  rcases h with ⟨_, h2, h3, h4⟩ | ⟨h2, _⟩
  · refine .inl ⟨by omega, by omega, ?_, by simp⟩
    rw [h3, word_split h1 h2 hc, words_cons _ _ h4]
    rw [← word_split h1 h2 hc]
    simp
  · omega
theorem inv_other {l : List UInt8} {k a : Nat} {ds : List (List UInt8)} (h : InvW l k a ds) (h1 : k < l.length) (hc : l[k] ≠ 32) : InvW l (k + 1) a ds := by
  rcases h with ⟨_, h2, h3, h4⟩ | ⟨h2, _⟩
  · refine .inl ⟨by omega, by omega, h3, ?_⟩
    have hl : k - a < (l.drop a).length := by rw [List.length_drop]; omega
    rw [show k + 1 - a = (k - a) + 1 by omega, List.take_succ_eq_append_getElem hl, List.mem_append, not_or]
    refine ⟨h4, ?_⟩
    rw [List.getElem_drop]
    simp only [show a + (k - a) = k by omega, List.mem_singleton]
    exact fun e => hc e.symm
  · omega
theorem inv_end {l : List UInt8} {k a : Nat} {ds : List (List UInt8)} (h : InvW l k a ds) (h1 : k = l.length) : InvW l (k + 1) (k + 1) (ds ++ [(l.drop a).take (k - a)]) := by
  rcases h with ⟨_, h2, h3, h4⟩ | ⟨h2, _⟩
  · refine .inr ⟨by omega, ?_⟩
    have e : (l.drop a).take (k - a) = l.drop a := List.take_of_length_le (by rw [List.length_drop]; omega)
    rw [e] at h4 ⊢
    rw [h3, words_one _ h4]
  · omega
/-- What words leaves. -/
def WordsOut (ws : List (List UInt8)) (w : World) (e : Ending) (w' : World) : Prop :=
  ∃ b c, e = .returned (.slice (some ⟨b, 0, none⟩) ws.length c) ∧ ws.length ≤ c ∧ c ≤ 1000000000 ∧ RT w' b (ws.map fun x => ⟨x.toArray⟩) ∧ Below w.heap.size w w'
theorem OwnS.rt {w : World} {base : Nat} {v : Value} {ws : List (List UInt8)} (h : OwnS w base v ws) (h0 : 0 < ws.length) : ∃ b c, v = .slice (some ⟨b, 0, none⟩) ws.length c ∧ ws.length ≤ c ∧ RT w b (ws.map fun x => ⟨x.toArray⟩) := by
  rcases h.2 with ⟨rfl, hn⟩ | ⟨g, cap, cur, rfl, hb, hh, hc, _, _, _⟩
  · exact absurd hn (by omega)
  · refine ⟨g, cap, rfl, hc, fun j hj => ?_⟩
    rw [List.length_map] at hj
    rw [World.ownsRow.cellAt h j (by omega), List.getElem?_map, List.getElem?_eq_getElem hj]
    simp [List.getD, List.getElem?_eq_getElem hj]
set_option maxRecDepth 100000 in
set_option maxHeartbeats 2000000 in
theorem words_any (l : List UInt8) (w : World) (hl : l.length ≤ 300) : Calls Tryd.prog 32 #[.string ⟨l.toArray⟩] w fun e w' => ∃ b c, e = .returned (.slice (some ⟨b, 0, none⟩) (wordsP l).length c) ∧ (wordsP l).length ≤ c ∧ RT w' b ((wordsP l).map fun x => ⟨x.toArray⟩) ∧ Below w.heap.size w w' := by
  have hsl : ∀ (a k : Nat) (h1 : a ≤ k) (h2 : k ≤ l.length) W, (Instr.slice 9 (.string ⟨l.toArray⟩) (some (.int .i64 (a : Int))) (some (.int .i64 (k : Int))) none).run Tryd.prog W = .ok (.string ⟨((l.drop a).take (k - a)).toArray⟩) W := fun a k h1 h2 W => slice_mid l _ a k h1 h2 rfl W
  have hsz : (⟨l.toArray⟩ : ByteArray).size = l.length := by rw [size_list]
  have hby : ∀ k (h : k < (⟨l.toArray⟩ : ByteArray).size) (h2 : k < l.length), l[k] = (⟨l.toArray⟩ : ByteArray)[k]'h := fun k h h2 => rfl
  have hs1 : (⟨l.toArray⟩ : ByteArray).size ≤ l.length := by omega
  have hs2 : l.length ≤ (⟨l.toArray⟩ : ByteArray).size := by omega
  have HSL := Lib.hid hsl
  have HBY := Lib.hid hby
  clear hsl hby hsz
  obtain ⟨R, hR⟩ : ∃ R, wordsP l = R := ⟨_, rfl⟩
  have HR := Lib.hid hR
  rw [hR]
  have hRn : 0 < R.length := by rw [← hR]; exact List.length_pos_iff.2 (words_ne l)
  clear hR
  generalize (⟨l.toArray⟩ : ByteArray) = S at *
  go_enter Tryd.func32, Tryd.ntmps32
  go_wp2
  go_loopw [3, 4, 5] (fun v q i wr => ∃ (k a : Nat) (ds : List (List UInt8)), i = .int .i64 k ∧ q = .int .i64 a ∧ OwnS wr w.heap.size v ds ∧ Below w.heap.size w wr ∧ ds.length ≤ k ∧ k ≤ l.length + 1 ∧ Hid (InvW l k a ds)) (fun _ _ i _ => l.length + 1 - (RowKit.intOf i).toNat)
  case atStart => exact ⟨0, 0, [], rfl, rfl, ownS_nil _ _, Below.refl _ _, by simp, by omega, .inl ⟨by omega, by omega, rfl, by simp⟩⟩
  case round =>
    obtain ⟨k, a, ds, rfl, rfl, hown, hbw, hdl, hkl, hinv⟩ := hrel
    have hbsz := hbw.size
    by_cases hle : k ≤ l.length
    · have hak : a ≤ k := by
        rcases hinv.out with ⟨_, h, _⟩ | ⟨h, _⟩ <;> omega
      have sl := HSL.out a k hak (by omega)
      generalize hwd : (l.drop a).take (k - a) = wd at *
      have HWD := Lib.hid hwd
      clear hwd
      by_cases hlt : k < l.length
      · have hltS : k < S.size := by omega
        have te : ((k : Int) == (S.size : Int)) = false := by simp; omega
        have hb := HBY.out k hltS hlt
        by_cases hc : S[k] = 32
        · have HI := Lib.hid (inv_blank hinv.out hlt (by rw [hb]; exact hc))
          have t32 : ((S[k].toNat : Int) == 32) = true := by rw [hc]; decide
          clear hc hb
          go_wp2_with (at_builtin; refine appS rfl _ _ rfl wr w w.heap.size w.heap.size _ ds wd rfl (by exact hown) rfl (by omega) (by omega) (Nat.le_refl _) hbw ?_)
          intro v' w2 hown' hb'
          clear hown hbw
          go_wp2
          go_roundw
          case rel => exact ⟨k + 1, k + 1, ds ++ [wd], by go_num, by go_num, hown', hb', by simp; omega, by omega, by rw [← HWD.out]; exact HI.out⟩
          case measure => simp [RowKit.intOf]; omega
        · have HI := Lib.hid (inv_other hinv.out hlt (by rw [hb]; exact hc))
          have hcn : S[k].toNat ≠ 32 := fun e => hc (UInt8.toNat_inj.1 e)
          have t32 : ((S[k].toNat : Int) == 32) = false := by simp; omega
          clear hc hb
          go_wp2
          go_roundw
          case rel => exact ⟨k + 1, a, ds, by go_num, rfl, hown, hbw, by omega, by omega, HI.out⟩
          case measure => simp [RowKit.intOf]; omega
      · have hke : k = l.length := by omega
        have HI := Lib.hid (inv_end hinv.out hke)
        have te : ((k : Int) == (S.size : Int)) = true := by simp; omega
        clear hke
        go_wp2_with (at_builtin; refine appS rfl _ _ rfl wr w w.heap.size w.heap.size _ ds wd rfl (by exact hown) rfl (by omega) (by omega) (Nat.le_refl _) hbw ?_)
        intro v' w2 hown' hb'
        clear hown hbw
        go_wp2
        go_roundw
        case rel => exact ⟨k + 1, k + 1, ds ++ [wd], by go_num, by go_num, hown', hb', by simp; omega, by omega, by rw [← HWD.out]; exact HI.out⟩
        case measure => simp [RowKit.intOf]; omega
    · have hds : R = ds := by
        rw [← HR.out]
        rcases hinv.out with ⟨h, _⟩ | ⟨_, h⟩
        · omega
        · exact h
      have HDS := Lib.hid hds
      have dk : decide (k ≤ S.size) = false := by simp; omega
      obtain ⟨b, c, hv, hcap, hrt⟩ := OwnS.rt hown (by rw [← hds]; exact hRn)
      subst hv
      clear hds hown
      go_wp2
      go_ret
      exact ⟨b, c, by rw [HDS.out]; rfl, by rw [HDS.out]; exact hcap, by rw [HDS.out]; exact hrt, hbw⟩
end Go.Proofs.YtocmppafmaehcaaDoor
