/-
  The law XmlParses: which bytes are a document, which, and the error of the others. Conditions: the slice holds at most 2^47 bytes; the library's variable MaxLen holds an int.
-/
import Derived.Test.YtklcjimmbkpbdaaGreatDoorZ23
import Derived.Test.YtklcjimmbkpbdaaGreatDoorZ25
import Derived.Test.YtklcjimmbkpbdaaGreatDoorZ32
namespace Go.Proofs.YtklcjimmbkpbdaaGreatDoor
open Go.RowKit
open Go.Lib
theorem info8U : (Tryz.prog.info? 5).map (fun i => (i.zero, i.size, i.bytes)) = some (some (.int .u8 0), 1, 1) := by kernel_rfl
theorem appIn8 {ops : Array Oper} {rest : List Oper} {o : Oper} {a : Act} {Q : Exit → Act → World → Prop} (hgd : o.guard = none) (s x : Operand)
    (ho : o.op = .call { callee := .builtin .append, args := #[s, x], argTypes := #[22, 22] }) (w : World) (l : Bs) (n c g : Nat) (A : Option Addr) (hg : w.heap.size = g) (hn : l.length = n) (hA : A = none → c = 0)
    (hs : a.eval s = .slice (some ⟨g, 0, none⟩) 0 0) (hx : a.eval x = .slice A n c) (hr : RB w A l) (hlen : n ≤ 140737488355328)
    (h : ∀ v w', OwnB6 w' w.heap.size v l → Below w.heap.size w w' → wpList Tryz.prog ops Q rest (a.put o.dst v) w') :
    wpList Tryz.prog ops Q (o :: rest) a (w.alloc (.cells #[] 5)) := by
 subst hg
 obtain ⟨i0, hi, hz0, hz1, hz2⟩ := info_parts info8U
 have hown : (w.alloc (.cells #[] 5)).ownsRow w.heap.size 5 1 (.slice (some ⟨w.heap.size, 0, none⟩) 0 0) 0 [] := World.ownsRow_made w #[] 0 (Nat.le_refl _) (by unfold maxLen; omega) rfl
 have hb := Below.refl w.heap.size w
 rcases Nat.eq_zero_or_pos l.length with h0 | h0
 ·obtain rfl : l = [] := List.eq_nil_of_length_eq_zero h0
  obtain rfl : n = 0 := by simpa using hn.symm
  refine wpList_append_fits_any _ hgd s x 22 ho w.heap.size 5 i0 1 Tryz.underlying22 hi hz1 w.heap.size 0 0 [] hs hown A 0 c [] hx rfl (fun e => ⟨rfl, hA e⟩) (fun ad _ j u hj => by simp at hj) (fun u hu => by simp at hu) (Nat.le_refl _) ?_
  intro w' hown' hgrow
  exact h _ w' hown' ((hb.alloc (Nat.le_refl _) _).grown hgrow (by simp) (fun k hk => by cases hk; exact Nat.le_refl _))
 ·obtain ⟨b, off, rfl, hbl, hc⟩ := hr h0
  refine wpList_append_own _ hgd s x 22 ho w.heap.size 5 i0 (.int .u8 0) 1 1 Tryz.underlying22 hi hz0 hz1 hz2 rfl (by decide) _ 0 [] hs hown ⟨b, off, none⟩ n c (cellsB l) hx (by rw [cellsB_length, hn, Nat.mul_one]) (fun j u hj => ?_) (cellsB_one _) (by unfold maxLen; omega) (by omega) (by simp) ?_
  ·have hjl : j < l.length := by have := (List.getElem?_eq_some_iff.1 hj).1; rwa [cellsB_length] at this
   rw [Addr.add_mid]
   refine ((((Below.refl w.heap.size w).alloc (Nat.le_refl _) _).cell (p := ⟨b, off + j, none⟩) hbl).trans ?_)
   rw [hc j hjl, ← cellsB_at l j hjl]
   exact hj
  ·intro v' w' hown' hgrow _
   refine h v' w' ?_ ((hb.alloc (Nat.le_refl _) _).grown hgrow (by simp) (fun k hk => by cases hk; exact Nat.le_refl _))
   unfold OwnB6
   rw [hn]
   rw [Nat.zero_add, List.nil_append] at hown'
   exact hown'
def Spoil8 (g n cap B : Nat) (w : World) : Prop := ∃ xs, w.ownsRow B 5 1 (.slice (some ⟨g, 0, none⟩) n cap) n xs ∧ ∀ u ∈ xs, ∃ z, u = .int .u8 z
set_option maxRecDepth 100000 in
set_option maxHeartbeats 4000000 in
theorem law_parses8 {A : Option Addr} {n c : Nat} {b : Bt} {w : World} (hn : b.length = n) (hA : A = none → c = 0) (hn47 : n ≤ 140737488355328) (hb : RB w A b) (hm : ML w) :
    Calls Tryz.prog 3 #[.slice A n c] w (BoO true w) := by
 have HF := hid (first_any w hm)
 unfold BoO at HF
 have HN := hid hn
 have HB := hid hb
 have HM := hid hm
 have HAN := hid hA
 clear hn hb hm hA
 by_cases hmid : 5000 < n ∧ n ≤ 65536
 ·obtain ⟨hbi, hbj⟩ := hmid
  have hbi : (5000 : Int) < (n : Int) := by omega
  have hbj : (n : Int) ≤ (65536 : Int) := by omega
  go_enter Tryz.func3, Tryz.ntmps3
  go_wp2_with fail
  refine HF.out.mono ?_
  rintro e w1 ⟨rfl, b1⟩
  go_wp2
  go_ret
  exact BoO.of rfl b1
 ·by_cases hbig : 65536 < n
  ·clear hmid
   have hbi : (5000 : Int) < (n : Int) := by omega
   have hbj : ¬ (n : Int) ≤ (65536 : Int) := by omega
   as_aux_lemma =>
    go_enter Tryz.func3, Tryz.ntmps3
    go_wp2_with fail
    refine HF.out.mono ?_
    rintro e w1 ⟨rfl, b1⟩
    have HB1 := hid b1
    clear HF b1
    go_upto_region 6 with (at_builtin; refine appIn8 rfl _ _ rfl w1 b n c w1.heap.size A rfl HN.out HAN.out rfl rfl (HB.out.below HB1.out) hn47 ?_
                           intro ov w2 hov hb2
                           have HOV := hid hov
                           have HB2 := hid (HB1.out.trans (hb2.mono HB1.out.size))
                           have HS12 : Hid (w.heap.size ≤ w1.heap.size) := hid HB1.out.size
                           obtain ⟨oA, oc, rfl, hoc, hrb, hab⟩ := hov.read
                           clear hov hb2)
    rw [HN.out] at HOV ⊢
    have P1 := parse_any8 (c := oc) HN.out hrb (HM.out.below HB2.out)
    have P2 := fun W (hW : Below w.heap.size w W) => rparse_doc (c := c) HN.out (HB.out.below hW)
    have HCX := hid (parse_cX b)
    obtain ⟨p, hp⟩ : ∃ p, parseX b = p := ⟨_, rfl⟩
    rw [hp] at P1 P2 HCX
    clear hp
    obtain ⟨v, k⟩ := p
    unfold PaO at P1 P2
    have HP1 := hid P1
    have HP2 := hid P2
    clear P1 P2 hrb hab
    go_wp2_with fail
    refine HP1.out.mono ?_
    clear HP1
    rintro e w3 ⟨b3, y, rfl, hy⟩
    try simp only at hy
    have HY := hid hy
    obtain ⟨yA, yc, ykA, ykc, rfl⟩ := xr_one hy
    obtain ⟨nA, hnA⟩ : ∃ n, v.attrs.length = n := ⟨_, rfl⟩
    obtain ⟨nK, hnK⟩ : ∃ n, v.kids.length = n := ⟨_, rfl⟩
    rw [hnA, hnK] at HY ⊢
    have HNA := hid hnA
    have HNK := hid hnK
    have HOV3 := hid (own_off (HOV.out : World.ownsRow _ _ _ _ _ _ _) (Off.of_below b3) (fun _ _ h => h))
    have HO2 : Hid (∀ x, (Value.slice oA n oc).ownBlock = some x → w.heap.size ≤ x ∧ x < w2.heap.size) := hid (fun x hx => by
     have h1 := World.ownsRow.lt HOV.out x hx
     have h2 := HS12.out
     exact ⟨by omega, by omega⟩)
    have HV3 := hid (Blk.new (.cells #[sV v.space, sV v.name, .slice yA nA yc, .slice ykA nK ykc, sV v.text] TNo) w3)
    have HB34 := hid (below_alloc8 w3 (.cells #[sV v.space, sV v.name, .slice yA nA yc, .slice ykA nK ykc, sV v.text] TNo))
    have HB3 := hid (HB2.out.trans (b3.mono HB2.out.size))
    have HS23 : Hid (w2.heap.size ≤ w3.heap.size) := hid b3.size
    clear hy hnA hnK b3 HOV HB2 HS12
    have HSP : Hid (0 < n → ∃ g, oA = some ⟨g, 0, none⟩ ∧ w.heap.size ≤ g ∧ g < w2.heap.size ∧ Spoil8 g n oc w1.heap.size (w3.alloc (.cells #[sV v.space, sV v.name, .slice yA nA yc, .slice ykA nK ykc, sV v.text] TNo))) := hid (fun h0 => by
     have hov := own_off HOV3.out (Off.of_below HB34.out) (fun _ _ h => h)
     rw [HN.out] at hov
     obtain ⟨g, cap, e, _, _⟩ := World.ownsRow.form hov h0
     injection e with e1 e2 e3
     subst e1 e3
     have := HO2.out g rfl
     exact ⟨g, rfl, this.1, this.2, _, hov, fun u hu => by
      unfold cellsB at hu
      obtain ⟨x, _, rfl⟩ := List.mem_map.1 hu
      exact ⟨_, rfl⟩⟩)
    have HOF0 : Hid (Off (fun x => w.heap.size ≤ x ∧ x < w2.heap.size) w3 (w3.alloc (.cells #[sV v.space, sV v.name, .slice yA nA yc, .slice ykA nK ykc, sV v.text] TNo))) := hid ((Off.of_below HB34.out).mono (fun _ h => h.elim))
    clear HOV3 HB34
    go_wp2
    go_loopw [29] (fun i wr => ∃ j : Nat, j ≤ n ∧ i = .int .i64 j ∧ Hid (0 < n → ∃ g, oA = some ⟨g, 0, none⟩ ∧ w.heap.size ≤ g ∧ g < w2.heap.size ∧ Spoil8 g n oc w1.heap.size wr) ∧ Hid (Off (fun x => w.heap.size ≤ x ∧ x < w2.heap.size) w3 wr) ∧ Hid (Blk w3.heap.size (.cells #[sV v.space, sV v.name, .slice yA nA yc, .slice ykA nK ykc, sV v.text] TNo) wr)) (fun i _ => n - (RowKit.intOf i).toNat)
    case atStart => exact ⟨0, Nat.zero_le _, rfl, HSP, HOF0, HV3⟩
    case round =>
     clear HSP HOF0 HV3
     obtain ⟨j, hj, rfl, HSP, HOF, HV3⟩ := hrel
     by_cases hjn : j < n
     ·obtain ⟨g, rfl, hg1, hg2, xs, hown, hxs⟩ := HSP.out (by omega)
      have hxl : xs.length = n * 1 := hown.1
      obtain ⟨z, hz⟩ := hxs (xs[j]'(by omega)) (List.getElem_mem _)
      have y0 : wr.cell? ⟨g, j, none⟩ = some (.int .u8 z) := by
       rw [World.ownsRow.cellAt hown j (by omega), List.getElem?_eq_getElem (by omega), hz]
      have yf := World.ownsRow.frozenAt hown j
      have HST : Hid (∀ z', Spoil8 g n oc w1.heap.size (wr.setCell ⟨g, j, none⟩ (.int .u8 z'))) := hid (fun z' => ⟨_, (World.ownsRow.stored hown j (.int .u8 z')).1, fun u hu => by
       rcases List.mem_or_eq_of_mem_set hu with h | h
       ·exact hxs u h
       ·exact ⟨z', h⟩⟩)
      have HGG : Hid (w.heap.size ≤ g ∧ g < w2.heap.size) := hid ⟨hg1, hg2⟩
      have i0' : (0 : Int) ≤ (j : Int) := by omega
      have i1' : (j : Int) < (n : Int) := by omega
      clear hown hxs hxl hz hg1 hg2 HSP
      go_wp2
      exact ⟨⟨j + 1, by omega, rfl, hid (fun _ => ⟨g, rfl, HGG.out.1, HGG.out.2, HST.out _⟩), hid (HOF.out.trans (off_set8 _ _ _ _) (fun x h => .inl (by have := HGG.out; omega))), hid ((off_set8 _ _ _ _).blk HV3.out (by have := HGG.out; have := HS23.out; omega))⟩, by show n - ((j : Int) + 1).toNat < n - (j : Int).toNat; omega⟩
     ·obtain rfl : j = n := by omega
      have HB5 : Hid (Below w.heap.size w wr) := hid (((Off.of_below HB3.out).trans HOF.out (fun x h => .inr h.1)).below (fun _ h => h.elim))
      have HY5 := hid (XR.off HOF.out (fun x hx h => by omega) _ _ HY.out)
      obtain ⟨V, hV⟩ : ∃ V, V = wr := ⟨_, rfl⟩
      subst hV
      clear HSP HOF HY HB3
      go_wp2_with fail
      refine (HP2.out _ HB5.out).mono ?_
      clear HP2
      rintro e w6 ⟨b6, zz, rfl, hz⟩
      try simp only at hz
      have HZ := hid hz
      obtain ⟨zA, zc, zkA, zkc, rfl⟩ := xr_one hz
      rw [HNA.out, HNK.out] at HZ ⊢
      have HB6 := hid (HB5.out.trans (b6.mono HB5.out.size))
      have HY6 := hid (XR.below HY5.out b6)
      have HV6 := hid ((Off.of_below b6).blk HV3.out (fun h => h))
      have b7 := below_alloc8 w6 (.cells #[sV v.space, sV v.name, .slice zA nA zc, .slice zkA nK zkc, sV v.text] TNo)
      have HV7 := hid (Blk.new (.cells #[sV v.space, sV v.name, .slice zA nA zc, .slice zkA nK zkc, sV v.text] TNo) w6)
      have HU7 := hid ((Off.of_below b7).blk HV6.out (fun h => h))
      have HB7 := hid (HB6.out.trans (b7.mono HB6.out.size))
      have HS := hid (same_any (w := w6.alloc (.cells #[sV v.space, sV v.name, .slice zA nA zc, .slice zkA nK zkc, sV v.text] TNo)) (by have := HCX.out; omega) (XR.below HY6.out b7) (XR.below HZ.out b7))
      unfold BoO at HS
      clear hz b6 b7 HY5 HB5 HV3 HV6 HY6 HB6 HZ
      have q0 := HU7.out.cell 0
      have q1 := HU7.out.cell 1
      have q2 := HU7.out.cell 2
      have q3 := HU7.out.cell 3
      have q4 := HU7.out.cell 4
      have j0 := HV7.out.cell 0
      have j1 := HV7.out.cell 1
      have j2 := HV7.out.cell 2
      have j3 := HV7.out.cell 3
      have j4 := HV7.out.cell 4
      have hzz : (k == k) = true := by simp
      go_wp2_with fail
      refine HS.out.mono ?_
      rintro e w8 ⟨rfl, b8⟩
      go_wp2
      go_ret
      exact BoO.of rfl (HB7.out.trans (b8.mono HB7.out.size))
  ·have hbi : ¬ (5000 : Int) < (n : Int) := by omega
   clear hmid hbig
   as_aux_lemma =>
    go_enter Tryz.func3, Tryz.ntmps3
    go_wp2_with fail
    refine HF.out.mono ?_
    rintro e w1 ⟨rfl, b1⟩
    have HB1 := hid b1
    clear HF b1
    go_upto_region 6 with (at_builtin; refine appIn8 rfl _ _ rfl w1 b n c w1.heap.size A rfl HN.out HAN.out rfl rfl (HB.out.below HB1.out) hn47 ?_
                           intro ov w2 hov hb2
                           have HOV := hid hov
                           have HB2 := hid (HB1.out.trans (hb2.mono HB1.out.size))
                           have HS12 : Hid (w.heap.size ≤ w1.heap.size) := hid HB1.out.size
                           obtain ⟨oA, oc, rfl, hoc, hrb, hab⟩ := hov.read
                           clear hov hb2)
    rw [HN.out] at HOV ⊢
    have P1 := parse_any8 (c := oc) HN.out hrb (HM.out.below HB2.out)
    have P2 := fun W (hW : Below w.heap.size w W) => rparse_doc (c := c) HN.out (HB.out.below hW)
    have HCX := hid (parse_cX b)
    obtain ⟨p, hp⟩ : ∃ p, parseX b = p := ⟨_, rfl⟩
    rw [hp] at P1 P2 HCX
    clear hp
    obtain ⟨v, k⟩ := p
    unfold PaO at P1 P2
    have HP1 := hid P1
    have HP2 := hid P2
    clear P1 P2 hrb hab
    go_wp2_with fail
    refine HP1.out.mono ?_
    clear HP1
    rintro e w3 ⟨b3, y, rfl, hy⟩
    try simp only at hy
    have HY := hid hy
    obtain ⟨yA, yc, ykA, ykc, rfl⟩ := xr_one hy
    obtain ⟨nA, hnA⟩ : ∃ n, v.attrs.length = n := ⟨_, rfl⟩
    obtain ⟨nK, hnK⟩ : ∃ n, v.kids.length = n := ⟨_, rfl⟩
    rw [hnA, hnK] at HY ⊢
    have HNA := hid hnA
    have HNK := hid hnK
    have HOV3 := hid (own_off (HOV.out : World.ownsRow _ _ _ _ _ _ _) (Off.of_below b3) (fun _ _ h => h))
    have HO2 : Hid (∀ x, (Value.slice oA n oc).ownBlock = some x → w.heap.size ≤ x ∧ x < w2.heap.size) := hid (fun x hx => by
     have h1 := World.ownsRow.lt HOV.out x hx
     have h2 := HS12.out
     exact ⟨by omega, by omega⟩)
    have HV3 := hid (Blk.new (.cells #[sV v.space, sV v.name, .slice yA nA yc, .slice ykA nK ykc, sV v.text] TNo) w3)
    have HB34 := hid (below_alloc8 w3 (.cells #[sV v.space, sV v.name, .slice yA nA yc, .slice ykA nK ykc, sV v.text] TNo))
    have HB3 := hid (HB2.out.trans (b3.mono HB2.out.size))
    have HS23 : Hid (w2.heap.size ≤ w3.heap.size) := hid b3.size
    clear hy hnA hnK b3 HOV HB2 HS12
    have HSP : Hid (0 < n → ∃ g, oA = some ⟨g, 0, none⟩ ∧ w.heap.size ≤ g ∧ g < w2.heap.size ∧ Spoil8 g n oc w1.heap.size (w3.alloc (.cells #[sV v.space, sV v.name, .slice yA nA yc, .slice ykA nK ykc, sV v.text] TNo))) := hid (fun h0 => by
     have hov := own_off HOV3.out (Off.of_below HB34.out) (fun _ _ h => h)
     rw [HN.out] at hov
     obtain ⟨g, cap, e, _, _⟩ := World.ownsRow.form hov h0
     injection e with e1 e2 e3
     subst e1 e3
     have := HO2.out g rfl
     exact ⟨g, rfl, this.1, this.2, _, hov, fun u hu => by
      unfold cellsB at hu
      obtain ⟨x, _, rfl⟩ := List.mem_map.1 hu
      exact ⟨_, rfl⟩⟩)
    have HOF0 : Hid (Off (fun x => w.heap.size ≤ x ∧ x < w2.heap.size) w3 (w3.alloc (.cells #[sV v.space, sV v.name, .slice yA nA yc, .slice ykA nK ykc, sV v.text] TNo))) := hid ((Off.of_below HB34.out).mono (fun _ h => h.elim))
    clear HOV3 HB34
    go_wp2
    go_loopw [29] (fun i wr => ∃ j : Nat, j ≤ n ∧ i = .int .i64 j ∧ Hid (0 < n → ∃ g, oA = some ⟨g, 0, none⟩ ∧ w.heap.size ≤ g ∧ g < w2.heap.size ∧ Spoil8 g n oc w1.heap.size wr) ∧ Hid (Off (fun x => w.heap.size ≤ x ∧ x < w2.heap.size) w3 wr) ∧ Hid (Blk w3.heap.size (.cells #[sV v.space, sV v.name, .slice yA nA yc, .slice ykA nK ykc, sV v.text] TNo) wr)) (fun i _ => n - (RowKit.intOf i).toNat)
    case atStart => exact ⟨0, Nat.zero_le _, rfl, HSP, HOF0, HV3⟩
    case round =>
     clear HSP HOF0 HV3
     obtain ⟨j, hj, rfl, HSP, HOF, HV3⟩ := hrel
     by_cases hjn : j < n
     ·obtain ⟨g, rfl, hg1, hg2, xs, hown, hxs⟩ := HSP.out (by omega)
      have hxl : xs.length = n * 1 := hown.1
      obtain ⟨z, hz⟩ := hxs (xs[j]'(by omega)) (List.getElem_mem _)
      have y0 : wr.cell? ⟨g, j, none⟩ = some (.int .u8 z) := by
       rw [World.ownsRow.cellAt hown j (by omega), List.getElem?_eq_getElem (by omega), hz]
      have yf := World.ownsRow.frozenAt hown j
      have HST : Hid (∀ z', Spoil8 g n oc w1.heap.size (wr.setCell ⟨g, j, none⟩ (.int .u8 z'))) := hid (fun z' => ⟨_, (World.ownsRow.stored hown j (.int .u8 z')).1, fun u hu => by
       rcases List.mem_or_eq_of_mem_set hu with h | h
       ·exact hxs u h
       ·exact ⟨z', h⟩⟩)
      have HGG : Hid (w.heap.size ≤ g ∧ g < w2.heap.size) := hid ⟨hg1, hg2⟩
      have i0' : (0 : Int) ≤ (j : Int) := by omega
      have i1' : (j : Int) < (n : Int) := by omega
      clear hown hxs hxl hz hg1 hg2 HSP
      go_wp2
      exact ⟨⟨j + 1, by omega, rfl, hid (fun _ => ⟨g, rfl, HGG.out.1, HGG.out.2, HST.out _⟩), hid (HOF.out.trans (off_set8 _ _ _ _) (fun x h => .inl (by have := HGG.out; omega))), hid ((off_set8 _ _ _ _).blk HV3.out (by have := HGG.out; have := HS23.out; omega))⟩, by show n - ((j : Int) + 1).toNat < n - (j : Int).toNat; omega⟩
     ·obtain rfl : j = n := by omega
      have HB5 : Hid (Below w.heap.size w wr) := hid (((Off.of_below HB3.out).trans HOF.out (fun x h => .inr h.1)).below (fun _ h => h.elim))
      have HY5 := hid (XR.off HOF.out (fun x hx h => by omega) _ _ HY.out)
      obtain ⟨V, hV⟩ : ∃ V, V = wr := ⟨_, rfl⟩
      subst hV
      clear HSP HOF HY HB3
      go_wp2_with fail
      refine (HP2.out _ HB5.out).mono ?_
      clear HP2
      rintro e w6 ⟨b6, zz, rfl, hz⟩
      try simp only at hz
      have HZ := hid hz
      obtain ⟨zA, zc, zkA, zkc, rfl⟩ := xr_one hz
      rw [HNA.out, HNK.out] at HZ ⊢
      have HB6 := hid (HB5.out.trans (b6.mono HB5.out.size))
      have HY6 := hid (XR.below HY5.out b6)
      have HV6 := hid ((Off.of_below b6).blk HV3.out (fun h => h))
      have b7 := below_alloc8 w6 (.cells #[sV v.space, sV v.name, .slice zA nA zc, .slice zkA nK zkc, sV v.text] TNo)
      have HV7 := hid (Blk.new (.cells #[sV v.space, sV v.name, .slice zA nA zc, .slice zkA nK zkc, sV v.text] TNo) w6)
      have HU7 := hid ((Off.of_below b7).blk HV6.out (fun h => h))
      have HB7 := hid (HB6.out.trans (b7.mono HB6.out.size))
      have HS := hid (same_any (w := w6.alloc (.cells #[sV v.space, sV v.name, .slice zA nA zc, .slice zkA nK zkc, sV v.text] TNo)) (by have := HCX.out; omega) (XR.below HY6.out b7) (XR.below HZ.out b7))
      unfold BoO at HS
      clear hz b6 b7 HY5 HB5 HV3 HV6 HY6 HB6 HZ
      have q0 := HU7.out.cell 0
      have q1 := HU7.out.cell 1
      have q2 := HU7.out.cell 2
      have q3 := HU7.out.cell 3
      have q4 := HU7.out.cell 4
      have j0 := HV7.out.cell 0
      have j1 := HV7.out.cell 1
      have j2 := HV7.out.cell 2
      have j3 := HV7.out.cell 3
      have j4 := HV7.out.cell 4
      have hzz : (k == k) = true := by simp
      go_wp2_with fail
      refine HS.out.mono ?_
      rintro e w8 ⟨rfl, b8⟩
      go_wp2
      go_ret
      exact BoO.of rfl (HB7.out.trans (b8.mono HB7.out.size))
end Go.Proofs.YtklcjimmbkpbdaaGreatDoor
