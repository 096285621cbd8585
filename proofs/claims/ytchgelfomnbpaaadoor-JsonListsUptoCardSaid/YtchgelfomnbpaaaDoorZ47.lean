/-
  The law JsonLists: the right ones of any values, in a list, are printed and read again. Conditions: the library's two tables hold what they are laid with; each value holds no more than 2000000.
-/
import Derived.Test.YtchgelfomnbpaaaDoorZ46
import Derived.Test.YtchgelfomnbpaaaDoorZ41
import Derived.Test.YtchgelfomnbpaaaDoorZ20
namespace Go.Proofs.YtchgelfomnbpaaaDoor
open Go.RowKit
open Go.Lib

/-- Right, and small enough to be kept. -/
def Kept20 (rs : List JV) : Prop := (∀ v ∈ rs, rightJ 0 v = true ∧ depthJ v < 24 ∧ wJ v ≤ 500) ∧ rs.length ≤ 20
/-- The state of the law's loop. -/
def LSt (w : World) (A : Option Addr) (c : Nat) (rs : List JV) (wr : World) : Prop := ∃ cs, OwV wr w.heap.size (.slice A rs.length c) rs.length cs ∧ JRs wr (fun b => b < w.heap.size) rs cs ∧ Kept20 rs ∧ Below w.heap.size w wr
theorem LSt.below {w wr w' : World} {A : Option Addr} {c : Nat} {rs : List JV} (h : LSt w A c rs wr) (hb : Below wr.heap.size wr w') : LSt w A c rs w' := by
  obtain ⟨cs, h1, h2, h3, h4⟩ := h
  exact ⟨cs, own_off h1 (Off.of_below hb) (fun _ _ h => h), JRs.off (Off.of_below hb) (fun _ _ h => h) rs cs h2, h3, h4.trans (hb.mono h4.size)⟩
theorem kept_w {rs : List JV} (h : Kept20 rs) : wJ (.mk 5 [] [] rs) ≤ 10001 := by
  have : ∀ l : List JV, (∀ v ∈ l, wJ v ≤ 500) → wsJ l ≤ 500 * l.length := by
    intro l
    induction l with
    | nil => intro _; exact Nat.le_refl _
    | cons a l ih =>
      intro h
      have h1 := ih (fun v hv => h v (List.mem_cons_of_mem _ hv))
      have h2 := h a (List.mem_cons_self ..)
      rw [wsJ, List.length_cons]
      omega
  have h1 := this rs (fun v hv => (h.1 v hv).2.2)
  have h2 := h.2
  rw [wJ, nsW]
  simp only [List.length_nil]
  omega
theorem ownV_form {w : World} {B n : Nat} {v : Value} {cs : List Value} (h : OwV w B v n cs) : ∃ A c, v = .slice A n c := by
  rcases h.2 with ⟨e, h0, _⟩ | ⟨g, cap, cur, e, _⟩
  · exact ⟨none, 0, by rw [e]⟩
  · exact ⟨_, _, e⟩
set_option maxRecDepth 100000 in
set_option maxHeartbeats 4000000 in
theorem law_lists {l : List JV} {lA : Option Addr} {n lc : Nat} {w : World} (hl : l.length = n) (hL : 0 < l.length → ∃ b off, lA = some ⟨b, off, none⟩ ∧ b < w.heap.size ∧ b < w.heap.size ∧ JRl w (fun b => b < w.heap.size) l b off) (hW : ∀ v ∈ l, wJ v ≤ 2000000) (hn : n ≤ 2000000) (hT : Tabs w) :
    Calls Tryd.prog 8 #[.slice lA n lc] w fun e w' => e = .returned (.bool true) ∧ Below w.heap.size w w' := by
  have HF := Lib.hid (first_any w hT)
  have HN := Lib.hid hl
  have HL := Lib.hid hL
  have HW := Lib.hid hW
  have HT := Lib.hid (fun W (h : Below w.heap.size w W) => (hT.off (Off.of_below h) (fun h => h) (fun h => h)))
  clear hl hL hW hT
  go_enter Tryd.func8, Tryd.ntmps8
  go_wp2_with fail
  refine HF.out.mono ?_
  clear HF
  rintro e w1 ⟨rfl, b1⟩
  have HB1 := Lib.hid b1
  clear b1
  go_wp2
  go_loopw [3, 4, 17] (fun s rv i wr => ∃ (j : Nat) (rs : List JV) (A : Option Addr) (c : Nat), j ≤ n ∧ i = .int .i64 j ∧ s = .string (bs (91 :: joinJ false [] rs)) ∧ rv = .slice A rs.length c ∧ Hid (LSt w A c rs wr)) (fun _ _ i _ => n - (RowKit.intOf i).toNat)
  case atStart => exact ⟨0, [], none, 0, Nat.zero_le _, rfl, by rw [joinJ]; rfl, rfl, Lib.hid ⟨[], World.ownsRow_nil _ _ _ _, rfl, ⟨fun v h => (by cases h), by decide⟩, HB1.out⟩⟩
  case round =>
    clear HB1
    obtain ⟨j, rs, A, c, hj, rfl, rfl, rfl, HS⟩ := hrel
    obtain ⟨m, hm⟩ : ∃ m, rs.length = m := ⟨_, rfl⟩
    have HM := Lib.hid hm
    have hm20 : m ≤ 20 := by rw [← hm]; obtain ⟨_, _, _, hk, _⟩ := HS.out; exact hk.2
    rw [hm]
    obtain ⟨SS, hSS⟩ : ∃ s, (91 :: joinJ false [] rs : Bt) = s := ⟨_, rfl⟩
    have HSS := Lib.hid hSS
    rw [hSS]
    clear hm hSS
    have HBW : Hid (Below w.heap.size w wr) := Lib.hid (by obtain ⟨_, _, _, _, h⟩ := HS.out; exact h)
    by_cases hjn : j < n
    · have hjl : j < l.length := by rw [HN.out]; exact hjn
      have hj1 : (j : Int) < (n : Int) := by omega
      obtain ⟨b, off, rfl, _, hbw, hJl⟩ := HL.out (by omega)
      obtain ⟨x0, x1, x2, x3, c0, c1, c2, c3, hJ⟩ := hJl.at j hjl
      obtain ⟨k', s', nA', nn', nc', lA', ln', lc', rfl, rfl, rfl, rfl⟩ := jr_form hJ
      have y0 := (HBW.out.cell (p := ⟨b, off + j * 4, none⟩) hbw).trans c0
      have y1 := (HBW.out.cell (p := ⟨b, off + j * 4 + 1, none⟩) hbw).trans c1
      have y2 := (HBW.out.cell (p := ⟨b, off + j * 4 + 2, none⟩) hbw).trans c2
      have y3 := (HBW.out.cell (p := ⟨b, off + j * 4 + 3, none⟩) hbw).trans c3
      have HWV : Hid (wJ l[j] ≤ 2000000) := Lib.hid (HW.out _ (List.getElem_mem hjl))
      obtain ⟨v, hv⟩ : ∃ v, l[j] = v := ⟨_, rfl⟩
      rw [hv] at hJ HWV
      have HV := Lib.hid hJ
      obtain ⟨E, hE⟩ : ∃ E, wr.heap.size = E := ⟨_, rfl⟩
      obtain ⟨wA, hwA⟩ : ∃ W, wr.alloc (.cells #[.int .i64 k', .string s', .slice nA' nn' nc', .slice lA' ln' lc'] TJ) = W := ⟨_, rfl⟩
      have hba : Below wr.heap.size wr wA := by rw [← hwA]; exact (Below.refl _ _).alloc (Nat.le_refl _) _
      have HBA : Hid (Below w.heap.size w wA) := Lib.hid (HBW.out.trans (hba.mono HBW.out.size))
      have HSA := Lib.hid (HS.out.below hba)
      have HEA : Hid (J4 E (.int .i64 k') (.string s') (.slice nA' nn' nc') (.slice lA' ln' lc') wA) := Lib.hid (by rw [← hwA, ← hE]; exact Blk.new _ wr)
      have HP := Lib.hid (print_any (HV.out.below HBA.out) HWV.out (HT.out _ HBA.out))
      have n0 := HEA.out.c0
      have n1 := HEA.out.c1
      have n2 := HEA.out.c2
      have n3 := HEA.out.c3
      clear c0 c1 c2 c3 hJ hJl hv hba
      go_wp2_with fail
      refine HP.out.mono ?_
      clear HP n0 n1 n2 n3 y0 y1 y2 y3 hwA hE
      rintro e w4 ⟨rfl, b4⟩
      have HS4 := Lib.hid (HSA.out.below b4)
      have HE4 := Lib.hid (HEA.out.below b4)
      have HB4 := Lib.hid (HBA.out.trans (b4.mono HBA.out.size))
      obtain ⟨P, hP⟩ : ∃ P, prS v = P := ⟨_, rfl⟩
      have HPP := Lib.hid hP
      obtain ⟨ze, hze⟩ : ∃ z, prE v = z := ⟨_, rfl⟩
      have HZE := Lib.hid hze
      rw [hP, hze]
      have n0 := HE4.out.c0
      have n1 := HE4.out.c1
      have n2 := HE4.out.c2
      have n3 := HE4.out.c3
      clear b4 HSA HEA HBA HS HBW hP hze
      have HEND : Hid (∀ W, Below w4.heap.size w4 W → (∃ (j2 : Nat) (rs2 : List JV) (A2 : Option Addr) (c2 : Nat), j2 ≤ n ∧ Value.int .i64 ((j : Int) + 1) = .int .i64 j2 ∧ Value.string (bs SS) = .string (bs (91 :: joinJ false [] rs2)) ∧ Value.slice A m c = .slice A2 rs2.length c2 ∧ Hid (LSt w A2 c2 rs2 W))) := Lib.hid (fun W h =>
        ⟨j + 1, rs, A, c, by omega, rfl, by rw [HSS.out], by rw [HM.out], Lib.hid (HS4.out.below h)⟩)
      by_cases h20 : (20 : Int) ≤ (m : Int)
      · go_wp2
        exact ⟨HEND.out _ (Below.refl _ _), by show n - ((j : Int) + 1).toNat < n - (j : Int).toNat; omega⟩
      · have HZ := Lib.hid (rsize_any _ 30 30 v _ w4 (by decide) rfl (HV.out.below HB4.out))
        go_wp2_with fail
        refine HZ.out.mono ?_
        clear HZ n0 n1 n2 n3
        rintro e w5 ⟨⟨y, rfl, hy0, hy1, hyw⟩, b5⟩
        have HB45 := Lib.hid b5
        have HS5 := Lib.hid (HS4.out.below b5)
        have HE5 := Lib.hid (HE4.out.below b5)
        have HB5 := Lib.hid (HB4.out.trans (b5.mono HB4.out.size))
        have HYW := Lib.hid hyw
        have n0 := HE5.out.c0
        have n1 := HE5.out.c1
        have n2 := HE5.out.c2
        have n3 := HE5.out.c3
        clear b5 hyw HS4 HE4 HB4
        by_cases h500 : 500 < y
        · go_wp2
          exact ⟨HEND.out _ HB45.out, by show n - ((j : Int) + 1).toNat < n - (j : Int).toNat; omega⟩
        · have HW5 : Hid (wJ v ≤ 500) := Lib.hid (by have := HYW.out (by omega); omega)
          by_cases hze : ze = 0
          case neg =>
            have hzb : (ze == 0) = false := by rw [beq_eq_false_iff_ne]; exact hze
            go_wp2
            exact ⟨HEND.out _ HB45.out, by show n - ((j : Int) + 1).toNat < n - (j : Int).toNat; omega⟩
          have HR : Hid (rightJ 0 v = true) := Lib.hid (by
            cases h : rightJ 0 v with
            | true => rfl
            | false => rw [← HZE.out, prE, h] at hze; simp at hze)
          subst hze
          have HD := Lib.hid (pdepth_any _ 500 v _ w5 (by have := size_w v; have := HW5.out; omega) (by decide) (HV.out.below HB5.out) (by have := size_w v; have := depth_size v; have := HW5.out; omega))
          obtain ⟨d, hd⟩ : ∃ d, depthJ v = d := ⟨_, rfl⟩
          rw [hd] at HD
          have HDD := Lib.hid hd
          clear hd
          go_wp2_with fail
          refine HD.out.mono ?_
          clear HD n0 n1 n2 n3
          rintro e w6 ⟨rfl, b6⟩
          have HB46 := Lib.hid (HB45.out.trans (b6.mono HB45.out.size))
          have HS6 := Lib.hid (HS5.out.below b6)
          have HE6 := Lib.hid (HE5.out.below b6)
          have HB6 := Lib.hid (HB5.out.trans (b6.mono HB5.out.size))
          have n0 := HE6.out.c0
          have n1 := HE6.out.c1
          have n2 := HE6.out.c2
          have n3 := HE6.out.c3
          clear b6 HS5 HE5 HB5
          by_cases h24 : (24 : Int) ≤ (d : Int)
          · go_wp2
            exact ⟨HEND.out _ HB46.out, by show n - ((j : Int) + 1).toNat < n - (j : Int).toNat; omega⟩
          · have HPR : Hid (P = printJ v) := Lib.hid (by rw [← HPP.out, prS, HR.out]; rfl)
            have HPL : Hid (P.length ≤ 16000) := Lib.hid (by rw [HPR.out]; have h1 := print_len v; have h2 := HW5.out; omega)
            have HSL : Hid (SS.length ≤ 400000) := Lib.hid (by
              have h1 := join_len false [] rs
              obtain ⟨_, _, _, hk, _⟩ := HS6.out
              have h2 := kept_w hk
              rw [wJ] at h2
              rw [← HSS.out, List.length_cons]
              rw [nsW] at h1 h2
              omega)
            have HK2 : Hid (Kept20 (rs ++ [v])) := Lib.hid (by
              obtain ⟨_, _, _, hk, _⟩ := HS6.out
              refine ⟨fun u hu => ?_, by rw [List.length_append, HM.out]; simp; omega⟩
              rcases List.mem_append.1 hu with h | h
              · exact hk.1 u h
              · rw [List.mem_singleton.1 h]
                exact ⟨HR.out, by have := HDD.out; omega, HW5.out⟩)
            obtain ⟨cs, hown, hread, _, _⟩ := HS6.out
            have HOWN := Lib.hid hown
            rw [HM.out] at HOWN hown
            have HREAD := Lib.hid hread
            have HNXT : Hid (∀ A2 c2 W, OwV W w.heap.size (.slice A2 (m + 1) c2) (m + 1) (cs ++ [.int .i64 k', .string s', .slice nA' nn' nc', .slice lA' ln' lc']) → Off (fun b => (Value.slice A m c).ownBlock = some b) w6 W → LSt w A2 c2 (rs ++ [v]) W) := Lib.hid (fun A2 c2 W h1 h2 => by
              have hlen : (rs ++ [v]).length = m + 1 := by rw [List.length_append, HM.out]; rfl
              have hblk : ∀ b, (Value.slice A m c).ownBlock = some b → w.heap.size ≤ b := fun b hb => (World.ownsRow.lt HOWN.out b hb).1
              refine ⟨_, by rw [hlen]; exact h1, JRs.off h2 (fun b hb h => by have := hblk b h; omega) _ _ (JRs.snoc (HV.out.below HB6.out) rs cs HREAD.out), HK2.out, ?_⟩
              exact ((Off.of_below HB6.out).trans h2 (fun b h => .inr (hblk b h))).below (fun _ h => h.elim))
            clear hread
            by_cases hm0 : m = 0
            · have hmi : ¬ (0 : Int) < (m : Int) := by omega
              have HE0 : Hid (rs = []) := Lib.hid (List.eq_nil_of_length_eq_zero (by rw [HM.out, hm0]))
              have a2 := add7 SS P (by have := HSL.out; have := HPL.out; omega) _ rfl
              have HJN : Hid (SS ++ P = 91 :: joinJ false [] (rs ++ [v])) := Lib.hid (by rw [← HSS.out, HE0.out, HPR.out]; show 91 :: (joinJ false [] [] ++ printJ v) = 91 :: joinJ false [] [v]; rw [join_one, joinJ]; rfl)
              clear hm0
              go_wp2_with (at_builtin; refine appV7 rfl _ _ rfl w6 w.heap.size (.slice A m c) m cs _ _ _ _ ⟨rfl, rfl, rfl, rfl⟩ rfl hown rfl (by omega) HB6.out.size ?_; intro v2 w7 ho2 hf2 _; obtain ⟨A2, c2, rfl⟩ := ownV_form ho2; have HST := Lib.hid (HNXT.out A2 c2 w7 ho2 hf2); clear ho2 hf2)
              exact ⟨⟨j + 1, rs ++ [v], A2, c2, by omega, rfl, by rw [HJN.out], by rw [List.length_append, HM.out]; rfl, HST⟩, by show n - ((j : Int) + 1).toNat < n - (j : Int).toNat; omega⟩
            · have hmi : (0 : Int) < (m : Int) := by omega
              have a1 : ∀ W, (Op.stringOp .add (bs SS) ⟨#[44]⟩).run Tryd.prog W = .ok (.string (bs (SS ++ [44]))) W := add7 SS [44] (by have := HSL.out; simp; omega) _ rfl
              obtain ⟨r1, hr1⟩ : ∃ x, SS ++ [44] = x := ⟨_, rfl⟩
              rw [hr1] at a1
              have hrl : r1.length ≤ 400001 := by rw [← hr1, List.length_append]; have := HSL.out; simp; omega
              have a2 := add7 r1 P (by have := HPL.out; omega) _ rfl
              have HJN : Hid (r1 ++ P = 91 :: joinJ false [] (rs ++ [v])) := Lib.hid (by
                rw [← hr1, ← HSS.out, join_snoc rs v (fun h => hm0 (by rw [← HM.out, h]; rfl)), HPR.out]; simp)
              clear hm0 hr1 hrl
              go_wp2_with (at_builtin; refine appV7 rfl _ _ rfl w6 w.heap.size (.slice A m c) m cs _ _ _ _ ⟨rfl, rfl, rfl, rfl⟩ rfl hown rfl (by omega) HB6.out.size ?_; intro v2 w7 ho2 hf2 _; obtain ⟨A2, c2, rfl⟩ := ownV_form ho2; have HST := Lib.hid (HNXT.out A2 c2 w7 ho2 hf2); clear ho2 hf2)
              exact ⟨⟨j + 1, rs ++ [v], A2, c2, by omega, rfl, by rw [HJN.out], by rw [List.length_append, HM.out]; rfl, HST⟩, by show n - ((j : Int) + 1).toNat < n - (j : Int).toNat; omega⟩
    · obtain rfl : j = n := by omega
      obtain ⟨cs, hown, hread, hkept, hbel⟩ := HS.out
      obtain ⟨V, hV⟩ : ∃ V, JV.mk 5 [] [] rs = V := ⟨_, rfl⟩
      have HVR : Hid (rightJ 0 V = true) := Lib.hid (by rw [← hV]; exact right_list (fun v hv => ⟨(hkept.1 v hv).1, (hkept.1 v hv).2.1⟩))
      have HVW : Hid (wJ V ≤ 10001) := Lib.hid (by rw [← hV]; exact kept_w hkept)
      have HVP : Hid (printJ V = SS ++ [93]) := Lib.hid (by rw [← hV, ← HSS.out, printJ]; rfl)
      have HVJ : Hid (JR wr (fun _ => True) V (.agg #[.int .i64 5, .string ⟨#[]⟩, .slice none 0 0, .slice A m c])) := Lib.hid (by
        rw [← hV]
        rw [HM.out] at hown
        have h0 : OwT wr w.heap.size (.slice none 0 0) [] := World.ownsRow_nil _ _ _ _
        have h2 : OwV wr w.heap.size (.slice A m c) rs.length cs := by rw [HM.out]; exact hown
        have := jr_own (k := 5) (t := []) (ns := []) (l := rs) (T' := fun _ => True) h0 h2 hread (fun _ _ => trivial) (fun _ _ => trivial) (fun _ _ => trivial)
        exact this)
      clear hown hread hkept hbel hV HS
      have HP := Lib.hid (print_any HVJ.out (by have := HVW.out; omega) (HT.out _ HBW.out))
      obtain ⟨L, hL⟩ : ∃ L, printJ V = L := ⟨_, rfl⟩
      have HPS : Hid (prS V = L ∧ prE V = 0) := Lib.hid (by unfold prS prE; rw [HVR.out]; exact ⟨hL, rfl⟩)
      rw [HPS.out.1, HPS.out.2] at HP
      have HLV := Lib.hid hL
      clear hL
      go_wp2_with fail
      refine HP.out.mono ?_
      clear HP
      rintro e w5 ⟨rfl, b5⟩
      have HB5 := Lib.hid (HBW.out.trans (b5.mono HBW.out.size))
      have HJ5 := Lib.hid (HVJ.out.below b5)
      clear b5 HVJ HBW
      obtain ⟨C6, w6, hcv, b6, hr6⟩ := conv_str7 w5 L
      have HJ6 := Lib.hid (HJ5.out.below b6)
      have HB6 := Lib.hid (HB5.out.trans (b6.mono HB5.out.size))
      obtain ⟨p, hp⟩ : ∃ p, parseJ L = p := ⟨_, rfl⟩
      have P1 := parse_any (c := C6) (n := L.length) rfl hr6 (HT.out _ HB6.out)
      rw [hp] at P1
      have HPE := Lib.hid hp
      obtain ⟨Q, hQ⟩ : ∃ Q, bs L = Q := ⟨_, rfl⟩
      have HQS : Hid (Q.size = L.length) := Lib.hid (by rw [← hQ, bs_size])
      have hsl : SS.length ≤ 400000 := by
        have h1 := congrArg List.length HVP.out
        have h2 := print_len V
        have h3 := HVW.out
        rw [List.length_append] at h1
        omega
      have a9 : ∀ W, (Op.stringOp .add (bs SS) ⟨#[93]⟩).run Tryd.prog W = .ok (.string Q) W := by
        rw [← hQ, ← HLV.out, HVP.out]
        exact add7 SS [93] (by simp; omega) _ rfl
      obtain ⟨n6, hn6⟩ : ∃ m, L.length = m := ⟨_, rfl⟩
      have HN6 := Lib.hid hn6
      rw [hn6] at P1 hcv
      rw [hQ] at hcv ⊢
      have HP1 := Lib.hid P1
      clear P1 b6 hr6 hp hn6 hQ hsl HJ5 HB5
      go_wp2_with fail
      refine HP1.out.mono ?_
      clear HP1 hcv
      rintro e w7 hx
      obtain ⟨b7, x0, x1, x2, x3, rfl, hone7, hj7⟩ := hx.at
      have hM7 : JZ w7.heap.size (w7.alloc (.cells #[.int .i64 0, .string ⟨#[]⟩, .slice none 0 0, .slice none 0 0] 28)) := Blk.new _ w7
      have HJ7 := Lib.hid hj7
      have HV7 := Lib.hid (HJ6.out.below b7)
      have HB7 := Lib.hid (HB6.out.trans (b7.mono HB6.out.size))
      obtain ⟨z1, hz1⟩ : ∃ z, exE p = z := ⟨_, rfl⟩
      rw [hz1]
      have HZ1 := Lib.hid hz1
      clear hx b7 hj7 hz1 HJ6 HB6
      go_upto_region 17 with (guard_target =~ Go.wpList _ _ _ ({ dst := none, op := Go.Op.store 28 _ _, type := _, pos := _, after := _, guard := none } :: _) _ _; refine st4 rfl rfl hone7 hM7 ?_)
      intro w8 hM8 o8
      have b8 := var4 o8
      have HV8 := Lib.hid (HV7.out.below b8)
      have HJ8 := Lib.hid (HJ7.out.below b8)
      have HB8 := Lib.hid (HB7.out.trans (b8.mono HB7.out.size))
      obtain ⟨M, hM⟩ : ∃ M, w7.heap.size = M := ⟨_, rfl⟩
      rw [hM] at hM8 ⊢
      have e0 := hM8.c0
      have e1 := hM8.c1
      have e2 := hM8.c2
      have e3 := hM8.c3
      have hqq : (Q.toList == Q.toList) = true := by simp
      clear hM7 o8 b8 hM8 hM HV7 HJ7 HB7
      by_cases hlong : 65536 < n6
      · have hli : (65536 : Int) < (Q.size : Int) := by have := HQS.out; have := HN6.out; omega
        go_wp2
        go_ret
        exact ⟨rfl, HB8.out⟩
      · have hli : ¬ (65536 : Int) < (Q.size : Int) := by have := HQS.out; have := HN6.out; omega
        have HPO : Hid (p = .ok V) := Lib.hid (by rw [← HPE.out, ← HLV.out]; exact parse_print HVR.out (by rw [HLV.out]; have := HN6.out; omega))
        have hz0 : z1 = 0 := by rw [← HZ1.out, HPO.out]; rfl
        subst hz0
        rw [show exV p = V by rw [HPO.out]; rfl] at HJ8
        have HSM := Lib.hid (rsame_any _ _ 10001 V _ _ w8 (by have := size_w V; have := HVW.out; omega) (by decide) HJ8.out HV8.out)
        go_wp2_with (go_at_call 12; (with_reducible refine HSM.out.mono ?_); rintro e w9 ⟨rfl, b9⟩; have HB9 := Lib.hid (HB8.out.trans (b9.mono HB8.out.size)); clear b9)
        go_ret
        exact ⟨rfl, HB9.out⟩
end Go.Proofs.YtchgelfomnbpaaaDoor
