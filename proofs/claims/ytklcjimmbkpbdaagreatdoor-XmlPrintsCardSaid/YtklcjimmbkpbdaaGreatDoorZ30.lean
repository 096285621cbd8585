/-
  The document's value: a text between quotes, its line feeds and tabs as references. Conditions: texts of modest length.
-/
import Derived.Test.YtklcjimmbkpbdaaGreatDoorZ26
import Derived.Test.YtklcjimmbkpbdaaGreatDoorZ29
namespace Go.Proofs.YtklcjimmbkpbdaaGreatDoor
open Go.RowKit
open Go.Lib

def vP (p : Int) : List Int := if p = 10 then [38, 35, 49, 48, 59] else if p = 9 then [38, 35, 57, 59] else [p]
theorem attrV_one (p : Int) (hp : isPt p = true) : attrV (enc [p]) = enc (vP p) := by
  unfold vP
  by_cases h10 : p = 10
  · subst h10; decide
  by_cases h9 : p = 9
  · subst h9; decide
  rw [if_neg h10, if_neg h9]
  apply attrV_id
  intro c hc
  have hall : AllPt [p] := fun z hz => by rw [List.mem_singleton.1 hz]; exact hp
  have key : ∀ k : UInt8, k.toNat < 128 → (k.toNat : Int) ≠ p → c ≠ k := by
    intro k hk hk2 e
    subst e
    exact hk2 (List.mem_singleton.1 (enc_mem [p] hall c hc hk))
  exact ⟨key 10 (by decide) (fun h => h10 h.symm), key 9 (by decide) (fun h => h9 h.symm)⟩
theorem attrV_enc : ∀ (l : List Int), AllPt l → attrV (enc l) = enc (l.flatMap vP)
  | [], _ => rfl
  | p :: l, h => by
    rw [show enc (p :: l) = enc [p] ++ enc l by rw [← enc_append]; rfl, attrV_append, attrV_one p (h p List.mem_cons_self), attrV_enc l (fun q hq => h q (List.mem_cons_of_mem _ hq)), List.flatMap_cons, enc_append]
set_option maxRecDepth 100000 in
set_option maxHeartbeats 1000000 in
theorem rvals_any (s : Bt) (w : World) (hs : s.length ≤ 8000) : Calls Tryz.prog 42 #[.string (bs s)] w fun e w' => e = .returned (.string (bs (34 :: (attrV (htmlB s) ++ [34])))) ∧ Below w.heap.size w w' := by
  have hp := rhtml_any (bs s) w (by rw [bs_size]; omega)
  rw [bs_list] at hp
  have hL := pts_length_le s
  have hL2 := List.length_filter_le inXml (pts s)
  have hP0 := allPt_filter inXml (pts_allPt s)
  have hzl0 := html_length ((pts s).filter inXml)
  have hE : attrV (htmlB s) = enc ((html ((pts s).filter inXml)).flatMap vP) := attrV_enc _ (html_pt hP0)
  have HP := Lib.hid (html_pt hP0)
  rw [hE]
  generalize html ((pts s).filter inXml) = zs at *
  have hzl : zs.length ≤ 48000 := by omega
  have hel := enc_length_le zs
  obtain ⟨t, ht⟩ : ∃ t : ByteArray, t = ⟨(enc zs).toArray⟩ := ⟨_, rfl⟩
  rw [← ht] at hp
  have hts : t.size ≤ 192000 := by rw [size_list, ht]; simp; omega
  have hpo := fun W => rpoints_any t W (by omega)
  rw [show raws t.data.toList = zs by rw [ht]; exact raws_enc zs HP.out] at hpo
  clear ht hel hL2 hL hE hP0 hzl0 hs
  go_enter Tryz.func42, Tryz.ntmps42
  go_wp2_with fail
  refine hp.mono ?_
  clear hp
  rintro e w1 ⟨rfl, b1⟩
  go_wp2_with fail
  refine (hpo w1).mono ?_
  clear hpo
  rintro e w2 ⟨A, c, rfl, hcap, hR, b2⟩
  have B2 : Below w.heap.size w w2 := b1.trans (b2.mono b1.size)
  have hz2 : w.heap.size ≤ w2.heap.size := B2.size
  clear b1 b2
  go_wp2
  go_loopw [3, 10] (fun v i wr => ∃ (k : Nat) (o : ByteArray), k ≤ zs.length ∧ i = .int .i64 k ∧ v = .string o ∧ o.size ≤ 5 * k ∧ Below w2.heap.size w2 wr ∧ Hid (StrIs o (enc ((zs.take k).flatMap vP)))) (fun _ i _ => zs.length - (RowKit.intOf i).toNat)
  case atStart => exact ⟨0, ⟨#[]⟩, Nat.zero_le _, rfl, rfl, by show 0 ≤ _; omega, Below.refl _ _, Lib.hid (by show _ = _; simp [enc])⟩
  case round =>
    obtain ⟨k, o, hk, rfl, rfl, hol, hbw, hst⟩ := hrel
    have hbsz := hbw.size
    by_cases hlt : k < zs.length
    · obtain ⟨b, off, rfl, hblt, hcell⟩ := hR (by omega)
      have hx := (hbw.cell (p := ⟨b, off + k, none⟩) (by exact hblt)).trans (hcell k hlt)
      have HT := Lib.hid (List.take_succ_eq_append_getElem hlt)
      have HX : zs.getD k 0 = zs[k] := by simp [List.getD, List.getElem?_eq_getElem hlt]
      rw [HX] at hx
      have hpt := HP.out _ (List.getElem_mem hlt)
      generalize zs[k] = z at *
      clear hcell HX hR
      have HF := Lib.hid (show enc ((zs.take (k + 1)).flatMap vP) = enc ((zs.take k).flatMap vP) ++ enc (vP z) by rw [HT.out]; exact enc_snoc vP _ z)
      by_cases c1 : z = 10
      · have b1 : (z == 10) = true := by simpa using c1
        have HQ := Lib.hid (show (⟨#[38, 35, 49, 48, 59]⟩ : ByteArray).data.toList = enc (vP z) by rw [c1]; decide +kernel)
        clear c1
        go_wp2
        go_roundw
        case rel => exact ⟨k + 1, o ++ ⟨#[38, 35, 49, 48, 59]⟩, by omega, by go_num, rfl, by rw [ByteArray.size_append]; show _ + 5 ≤ _; omega, hbw, Lib.hid (StrIs.add hst.out HQ.out HF.out)⟩
        case measure => simp [RowKit.intOf]; omega
      by_cases c2 : z = 9
      · have b2 : (z == 9) = true := by simpa using c2
        have b1 : (z == 10) = false := by simpa using c1
        have HQ := Lib.hid (show (⟨#[38, 35, 57, 59]⟩ : ByteArray).data.toList = enc (vP z) by rw [c2]; decide +kernel)
        clear c1 c2
        go_wp2
        go_roundw
        case rel => exact ⟨k + 1, o ++ ⟨#[38, 35, 57, 59]⟩, by omega, by go_num, rfl, by rw [ByteArray.size_append]; show _ + 4 ≤ _; omega, hbw, Lib.hid (StrIs.add hst.out HQ.out HF.out)⟩
        case measure => simp [RowKit.intOf]; omega
      have b1 : (z == 10) = false := by simpa using c1
      have b2 : (z == 9) = false := by simpa using c2
      have HQ := Lib.hid (show enc (vP z) = enc [z] by unfold vP; rw [if_neg c1, if_neg c2])
      clear c1 c2
      have hrl := (encodeRune_length z).2
      have htx := text_any (some ⟨wr.heap.size, 0, none⟩) 1 [z] (wr.alloc (.cells #[.int .i64 z] 3)) (by simp) (fun p hp => by rw [List.mem_singleton] at hp; rw [hp]; exact hpt) (RI_one wr z)
      rw [show [z].length = 1 from rfl] at htx
      obtain ⟨tz, htz⟩ : ∃ tz : ByteArray, tz = ⟨(enc [z]).toArray⟩ := ⟨_, rfl⟩
      rw [← htz] at htx
      have HTZ := Lib.hid (show tz.data.toList = enc (vP z) by rw [HQ.out, htz])
      have hts : tz.size ≤ 4 := by rw [size_list, htz]; simp [enc]; exact hrl
      clear htz hpt hrl
      go_wp2_with fail
      refine htx.mono ?_
      clear htx
      rintro e w3 ⟨rfl, b3'⟩
      have B3 : Below w2.heap.size w2 w3 := hbw.trans (((Below.refl _ wr).alloc hbsz _).trans (b3'.mono (by simp; omega)))
      go_wp2
      go_roundw
      case rel => exact ⟨k + 1, o ++ tz, by omega, by go_num, rfl, by simp; omega, B3, Lib.hid (StrIs.add hst.out HTZ.out HF.out)⟩
      case measure => simp [RowKit.intOf]; omega
    · have HE := Lib.hid (show StrIs o (enc (zs.flatMap vP)) by have := hst.out; rwa [List.take_of_length_le (by omega)] at this)
      have hq1 : (⟨#[34]⟩ : ByteArray).size = 1 := rfl
      go_wp2
      go_ret
      refine ⟨?_, B2.trans (hbw.mono hz2)⟩
      have h1 : StrIs ((⟨#[34]⟩ ++ o) ++ ⟨#[34]⟩) (34 :: (enc (zs.flatMap vP) ++ [34])) := StrIs.add (StrIs.add (l := [34]) rfl HE.out rfl) (m := [34]) rfl rfl
      exact h1.ret
end Go.Proofs.YtklcjimmbkpbdaaGreatDoor
