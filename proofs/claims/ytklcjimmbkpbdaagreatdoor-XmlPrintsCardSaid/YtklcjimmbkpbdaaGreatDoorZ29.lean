/-
  The walk of the document's Html of layer 2. Conditions: texts of at most two hundred thousand bytes.
-/
import Derived.Test.YtklcjimmbkpbdaaGreatDoorZ07
namespace Go.Proofs.YtklcjimmbkpbdaaGreatDoor
open Go.RowKit
open Go.Lib

theorem cat_list (a b : ByteArray) : (a ++ b).data.toList = a.data.toList ++ b.data.toList := by simp
theorem raws_enc (l : List Int) (h : AllPt l) : raws (enc l) = l := by
  have hv := raws_valid _ (enc l) (Nat.le_refl _)
  rw [valid_enc l h] at hv
  have hm := map_fix_raws (enc l)
  rw [pts_enc' l h] at hm
  have : ∀ zs : List Int, zs.all (fun p => decide (0 ≤ p)) = true → zs = zs.map fix := by
    intro zs
    induction zs with
    | nil => intro _; rfl
    | cons z zs ih =>
      intro hz
      rw [List.all_cons, Bool.and_eq_true] at hz
      have h0 : 0 ≤ z := by simpa using hz.1
      rw [List.map_cons, ← ih hz.2]
      congr 1
      unfold fix; rw [if_neg (by omega)]
  exact (this _ hv.symm).trans hm
theorem enc_snoc (f : Int → List Int) (l : List Int) (z : Int) : enc ((l ++ [z]).flatMap f) = enc (l.flatMap f) ++ enc (f z) := by
  rw [List.flatMap_append, enc_append]; simp
/-- A text that is built. -/
def StrIs (o : ByteArray) (l : List UInt8) : Prop := o.data.toList = l
theorem StrIs.ret {o : ByteArray} {l : List UInt8} (h : StrIs o l) : Ending.returned (.string o) = .returned (.string ⟨l.toArray⟩) := by
  unfold StrIs at h; subst h; rfl
theorem StrIs.add {o p : ByteArray} {l m n : List UInt8} (h : StrIs o l) (hp : p.data.toList = m) (hn : n = l ++ m) : StrIs (o ++ p) n := by
  unfold StrIs at *
  rw [cat_list, h, hp, hn]
set_option maxRecDepth 100000 in
set_option maxHeartbeats 4000000 in
theorem rhtml_any (s : ByteArray) (w : World) (hs : s.size ≤ 200000) : Calls Tryz.prog 41 #[.string s] w fun e w' => e = .returned (.string ⟨(enc (html ((pts s.data.toList).filter inXml))).toArray⟩) ∧ Below w.heap.size w w' := by
  have hp := rplain_any s w (by omega)
  have hL := pts_length_le s.data.toList
  rw [← size_list] at hL
  have hL2 := List.length_filter_le inXml (pts s.data.toList)
  have HP := Lib.hid (allPt_filter inXml (pts_allPt s.data.toList))
  generalize (pts s.data.toList).filter inXml = zs at *
  have hzl : zs.length ≤ 200000 := by omega
  have hel := enc_length_le zs
  obtain ⟨t, ht⟩ : ∃ t : ByteArray, t = ⟨(enc zs).toArray⟩ := ⟨_, rfl⟩
  rw [← ht] at hp
  have hts : t.size ≤ 800000 := by rw [size_list, ht]; simp; omega
  have hpo := fun W => rpoints_any t W (by omega)
  rw [show raws t.data.toList = zs by rw [ht]; exact raws_enc zs HP.out] at hpo
  clear ht hel hL2 hL
  go_enter Tryz.func41, Tryz.ntmps41
  go_wp2_with fail
  refine hp.mono ?_
  clear hp
  rintro e w1 ⟨rfl, b1⟩
  go_wp2_with fail
  refine (hpo w1).mono ?_
  clear hpo
  rintro e w2 ⟨A, c, rfl, hcap, hR, b2⟩
  have B2 : Below w.heap.size w w2 := b1.trans (b2.mono b1.size)
  have hz2 : w.heap.size ≤ w2.heap.size := B2.size
  clear b1 b2
  go_wp2
  go_loopw [3, 10] (fun v i wr => ∃ (k : Nat) (o : ByteArray), k ≤ zs.length ∧ i = .int .i64 k ∧ v = .string o ∧ o.size ≤ 24 * k ∧ Below w2.heap.size w2 wr ∧ Hid (StrIs o (enc (html (zs.take k))))) (fun _ i _ => zs.length - (RowKit.intOf i).toNat)
  case atStart => exact ⟨0, ⟨#[]⟩, Nat.zero_le _, rfl, rfl, by show 0 ≤ _; omega, Below.refl _ _, by show _ = _; simp [html, enc]⟩
  case round =>
    obtain ⟨k, o, hk, rfl, rfl, hol, hbw, hst⟩ := hrel
    have hbsz := hbw.size
    by_cases hlt : k < zs.length
    · obtain ⟨b, off, rfl, hblt, hcell⟩ := hR (by omega)
      have hx := (hbw.cell (p := ⟨b, off + k, none⟩) (by exact hblt)).trans (hcell k hlt)
      have HT := Lib.hid (List.take_succ_eq_append_getElem hlt)
      have HX : zs.getD k 0 = zs[k] := by simp [List.getD, List.getElem?_eq_getElem hlt]
      rw [HX] at hx
      have hpt := HP.out _ (List.getElem_mem hlt)
      generalize zs[k] = z at *
      clear hcell HX hR
      have HF := Lib.hid (show enc (html (zs.take (k + 1))) = enc (html (zs.take k)) ++ enc (hP z) by rw [HT.out]; exact enc_snoc hP _ z)
      by_cases c1 : z = 38
      · have b1 : (z == 38) = true := by simpa using c1
        have HQ := Lib.hid (show (⟨#[38, 97, 109, 112, 59]⟩ : ByteArray).data.toList = enc (hP z) by rw [c1]; decide +kernel)
        clear c1
        go_wp2
        go_roundw
        case rel => exact ⟨k + 1, o ++ ⟨#[38, 97, 109, 112, 59]⟩, by omega, by go_num, rfl, by rw [ByteArray.size_append]; show _ + 5 ≤ _; omega, hbw, StrIs.add hst.out HQ.out HF.out⟩
        case measure => simp [RowKit.intOf]; omega
      by_cases c2 : z = 60
      · have b2 : (z == 60) = true := by simpa using c2
        have b1 : (z == 38) = false := by simpa using c1
        have HQ := Lib.hid (show (⟨#[38, 108, 116, 59]⟩ : ByteArray).data.toList = enc (hP z) by rw [c2]; decide +kernel)
        clear c1 c2
        go_wp2
        go_roundw
        case rel => exact ⟨k + 1, o ++ ⟨#[38, 108, 116, 59]⟩, by omega, by go_num, rfl, by rw [ByteArray.size_append]; show _ + 4 ≤ _; omega, hbw, StrIs.add hst.out HQ.out HF.out⟩
        case measure => simp [RowKit.intOf]; omega
      by_cases c3 : z = 62
      · have b3 : (z == 62) = true := by simpa using c3
        have b1 : (z == 38) = false := by simpa using c1
        have b2 : (z == 60) = false := by simpa using c2
        have HQ := Lib.hid (show (⟨#[38, 103, 116, 59]⟩ : ByteArray).data.toList = enc (hP z) by rw [c3]; decide +kernel)
        clear c1 c2 c3
        go_wp2
        go_roundw
        case rel => exact ⟨k + 1, o ++ ⟨#[38, 103, 116, 59]⟩, by omega, by go_num, rfl, by rw [ByteArray.size_append]; show _ + 4 ≤ _; omega, hbw, StrIs.add hst.out HQ.out HF.out⟩
        case measure => simp [RowKit.intOf]; omega
      by_cases c4 : z = 34
      · have b4 : (z == 34) = true := by simpa using c4
        have b1 : (z == 38) = false := by simpa using c1
        have b2 : (z == 60) = false := by simpa using c2
        have b3 : (z == 62) = false := by simpa using c3
        have HQ := Lib.hid (show (⟨#[38, 113, 117, 111, 116, 59]⟩ : ByteArray).data.toList = enc (hP z) by rw [c4]; decide +kernel)
        clear c1 c2 c3 c4
        go_wp2
        go_roundw
        case rel => exact ⟨k + 1, o ++ ⟨#[38, 113, 117, 111, 116, 59]⟩, by omega, by go_num, rfl, by rw [ByteArray.size_append]; show _ + 6 ≤ _; omega, hbw, StrIs.add hst.out HQ.out HF.out⟩
        case measure => simp [RowKit.intOf]; omega
      by_cases c5 : z = 39
      · have b5 : (z == 39) = true := by simpa using c5
        have b1 : (z == 38) = false := by simpa using c1
        have b2 : (z == 60) = false := by simpa using c2
        have b3 : (z == 62) = false := by simpa using c3
        have b4 : (z == 34) = false := by simpa using c4
        have HQ := Lib.hid (show (⟨#[38, 35, 51, 57, 59]⟩ : ByteArray).data.toList = enc (hP z) by rw [c5]; decide +kernel)
        clear c1 c2 c3 c4 c5
        go_wp2
        go_roundw
        case rel => exact ⟨k + 1, o ++ ⟨#[38, 35, 51, 57, 59]⟩, by omega, by go_num, rfl, by rw [ByteArray.size_append]; show _ + 5 ≤ _; omega, hbw, StrIs.add hst.out HQ.out HF.out⟩
        case measure => simp [RowKit.intOf]; omega
      have b1 : (z == 38) = false := by simpa using c1
      have b2 : (z == 60) = false := by simpa using c2
      have b3 : (z == 62) = false := by simpa using c3
      have b4 : (z == 34) = false := by simpa using c4
      have b5 : (z == 39) = false := by simpa using c5
      have HQ := Lib.hid (show enc (hP z) = enc [z] by rw [hP_else z c1 c2 c3 c4 c5])
      clear c1 c2 c3 c4 c5
      have hrl := (encodeRune_length z).2
      have htx := text_any (some ⟨wr.heap.size, 0, none⟩) 1 [z] (wr.alloc (.cells #[.int .i64 z] 3)) (by simp) (fun p hp => by rw [List.mem_singleton] at hp; rw [hp]; exact hpt) (RI_one wr z)
      rw [show [z].length = 1 from rfl] at htx
      obtain ⟨tz, htz⟩ : ∃ tz : ByteArray, tz = ⟨(enc [z]).toArray⟩ := ⟨_, rfl⟩
      rw [← htz] at htx
      have HTZ := Lib.hid (show tz.data.toList = enc (hP z) by rw [HQ.out, htz])
      have hts : tz.size ≤ 4 := by rw [size_list, htz]; simp [enc]; exact hrl
      clear htz hpt hrl
      go_wp2_with fail
      refine htx.mono ?_
      clear htx
      rintro e w3 ⟨rfl, b3'⟩
      have B3 : Below w2.heap.size w2 w3 := hbw.trans (((Below.refl _ wr).alloc hbsz _).trans (b3'.mono (by simp; omega)))
      go_wp2
      go_roundw
      case rel => exact ⟨k + 1, o ++ tz, by omega, by go_num, rfl, by simp; omega, B3, StrIs.add hst.out HTZ.out HF.out⟩
      case measure => simp [RowKit.intOf]; omega
    · have HE := Lib.hid (show StrIs o (enc (html zs)) by have := hst.out; rwa [List.take_of_length_le (by omega)] at this)
      go_wp2
      go_ret
      exact ⟨HE.out.ret, B2.trans (hbw.mono hz2)⟩
end Go.Proofs.YtklcjimmbkpbdaaGreatDoor
