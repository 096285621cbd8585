/-
  The law JsonParses: which bytes are a value, which, and the error of the others. Conditions: the library's two tables hold what they are laid with.
-/
import Derived.Test.YtchgelfomnbpaaaDoorZ49
import Derived.Test.YtchgelfomnbpaaaDoorZ41
namespace Go.Proofs.YtchgelfomnbpaaaDoor
open Go.RowKit
open Go.Lib

theorem Tryd.info7U : (Tryd.prog.info? 5).map (fun i => (i.zero, i.size, i.bytes)) = some (some (.int .u8 0), 1, 1) := by kernel_rfl
theorem appIn7 {ops : Array Oper} {rest : List Oper} {o : Oper} {a : Act} {Q : Exit → Act → World → Prop} (hgd : o.guard = none) (s x : Operand)
    (ho : o.op = .call { callee := .builtin .append, args := #[s, x], argTypes := #[22, 22] }) (w : World) (l : Bs) (n c g : Nat) (A : Option Addr) (hg : w.heap.size = g) (hn : l.length = n) (hA : A = none → c = 0)
    (hs : a.eval s = .slice (some ⟨g, 0, none⟩) 0 0) (hx : a.eval x = .slice A n c) (hr : RB w A l) (hlen : n ≤ 10000000)
    (h : ∀ v w', OwnB6 w' w.heap.size v l → Below w.heap.size w w' → wpList Tryd.prog ops Q rest (a.put o.dst v) w') :
    wpList Tryd.prog ops Q (o :: rest) a (w.alloc (.cells #[] 5)) := by
  subst hg
  obtain ⟨i0, hi, hz0, hz1, hz2⟩ := info_parts Tryd.info7U
  have hown : (w.alloc (.cells #[] 5)).ownsRow w.heap.size 5 1 (.slice (some ⟨w.heap.size, 0, none⟩) 0 0) 0 [] := World.ownsRow_made w #[] 0 (Nat.le_refl _) (by unfold maxLen; omega) rfl
  have hb := Below.refl w.heap.size w
  rcases Nat.eq_zero_or_pos l.length with h0 | h0
  · obtain rfl : l = [] := List.eq_nil_of_length_eq_zero h0
    obtain rfl : n = 0 := by simpa using hn.symm
    refine wpList_append_fits_any _ hgd s x 22 ho w.heap.size 5 i0 1 Tryd.underlying22 hi hz1 w.heap.size 0 0 [] hs hown A 0 c [] hx rfl (fun e => ⟨rfl, hA e⟩) (fun ad _ j u hj => by simp at hj) (fun u hu => by simp at hu) (Nat.le_refl _) ?_
    intro w' hown' hgrow
    exact h _ w' hown' ((hb.alloc (Nat.le_refl _) _).grown hgrow (by simp) (fun k hk => by cases hk; exact Nat.le_refl _))
  · obtain ⟨b, off, rfl, hbl, hc⟩ := hr h0
    refine wpList_append_own _ hgd s x 22 ho w.heap.size 5 i0 (.int .u8 0) 1 1 Tryd.underlying22 hi hz0 hz1 hz2 rfl (by decide) _ 0 [] hs hown ⟨b, off, none⟩ n c (cellsB l) hx (by rw [cellsB_length, hn, Nat.mul_one]) (fun j u hj => ?_) (cellsB_one _) (by unfold maxLen; omega) (by omega) (by simp) ?_
    · have hjl : j < l.length := by have := (List.getElem?_eq_some_iff.1 hj).1; rwa [cellsB_length] at this
      rw [Addr.add_mid]
      refine ((((Below.refl w.heap.size w).alloc (Nat.le_refl _) _).cell (p := ⟨b, off + j, none⟩) hbl).trans ?_)
      rw [hc j hjl, ← cellsB_at l j hjl]
      exact hj
    · intro v' w' hown' hgrow _
      refine h v' w' ?_ ((hb.alloc (Nat.le_refl _) _).grown hgrow (by simp) (fun k hk => by cases hk; exact Nat.le_refl _))
      unfold OwnB6
      rw [hn]
      rw [Nat.zero_add, List.nil_append] at hown'
      exact hown'
/-- The copy that is spoiled: whatever bytes. -/
def Spoil (g n cap B : Nat) (w : World) : Prop := ∃ xs, w.ownsRow B 5 1 (.slice (some ⟨g, 0, none⟩) n cap) n xs ∧ ∀ u ∈ xs, ∃ z, u = .int .u8 z
theorem exV_size {b : Bt} {p : Except Int JV} (hp : parseJ b = p) : sizeJ (exV p) ≤ 70000 := by
  cases p with
  | error e => show sizeJ (.mk 0 [] [] []) ≤ _; rw [sizeJ, sizesJ]; simp
  | ok v => have := parse_size hp; show sizeJ v ≤ _; omega
set_option maxRecDepth 100000 in
set_option maxHeartbeats 4000000 in
theorem law_parses {A : Option Addr} {n c : Nat} {b : Bt} {w : World} (hn : b.length = n) (hA : A = none → c = 0) (hb : RB w A b) (hT : Tabs w) :
    Calls Tryd.prog 3 #[.slice A n c] w fun e w' => e = .returned (.bool true) ∧ Below w.heap.size w w' := by
  have HF := Lib.hid (first_any w hT)
  have HN := Lib.hid hn
  have HB := Lib.hid hb
  have HT := Lib.hid hT
  have HAN := Lib.hid hA
  clear hn hb hT hA
  by_cases hbig : 70000 < n
  · have hbi : (70000 : Int) < (n : Int) := by omega
    go_enter Tryd.func3, Tryd.ntmps3
    go_wp2_with fail
    refine HF.out.mono ?_
    rintro e w1 ⟨rfl, b1⟩
    go_wp2
    go_ret
    exact ⟨rfl, b1⟩
  · have hbi : ¬ (70000 : Int) < (n : Int) := by omega
    go_enter Tryd.func3, Tryd.ntmps3
    go_wp2_with fail
    refine HF.out.mono ?_
    rintro e w1 ⟨rfl, b1⟩
    have HB1 := Lib.hid b1
    clear HF b1
    go_upto_region 6 with (at_builtin; refine appIn7 rfl _ _ rfl w1 b n c w1.heap.size A rfl HN.out HAN.out rfl rfl (HB.out.below HB1.out) (by omega) ?_
                           intro ov w2 hov hb2
                           have HOV := Lib.hid hov
                           have HB2 := Lib.hid (HB1.out.trans (hb2.mono HB1.out.size))
                           have HS12 : Hid (w.heap.size ≤ w1.heap.size) := Lib.hid HB1.out.size
                           obtain ⟨oA, oc, rfl, hoc, hrb, hab⟩ := hov.read
                           clear hov hb2)
    rw [HN.out] at HOV ⊢
    have P1 := parse_any (c := oc) HN.out hrb (HT.out.off (Off.of_below HB2.out) (fun h => h) (fun h => h))
    obtain ⟨p, hp⟩ : ∃ p, parseJ b = p := ⟨_, rfl⟩
    rw [hp] at P1
    have HP1 := Lib.hid P1
    have HP := Lib.hid hp
    clear P1 hp hrb hab
    go_wp2_with fail
    refine HP1.out.mono ?_
    clear HP1
    rintro e w3 hx
    obtain ⟨b3, x0, x1, x2, x3, rfl, hone, hj3⟩ := hx.at
    have hM3 : JZ w3.heap.size (w3.alloc (.cells #[.int .i64 0, .string ⟨#[]⟩, .slice none 0 0, .slice none 0 0] 28)) := Blk.new _ w3
    have HJ3 := Lib.hid hj3
    have HB3 := Lib.hid (HB2.out.trans (b3.mono HB2.out.size))
    have HOV3 := Lib.hid (own_off (HOV.out : World.ownsRow _ _ _ _ _ _ _) (Off.of_below b3) (fun _ _ h => h))
    have HS23 : Hid (w2.heap.size ≤ w3.heap.size) := Lib.hid b3.size
    have HO2 : Hid (∀ x, (Value.slice oA n oc).ownBlock = some x → w.heap.size ≤ x ∧ x < w2.heap.size) := Lib.hid (fun x hx => by
      have h1 := World.ownsRow.lt HOV.out x hx
      have h2 := HS12.out
      exact ⟨by omega, by omega⟩)
    clear hx b3 hj3 HOV HB2 HS12
    obtain ⟨z1, hz1⟩ : ∃ z, exE p = z := ⟨_, rfl⟩
    rw [hz1]
    have HZ1 := Lib.hid hz1
    clear hz1
    go_upto_region 7 with (guard_target =~ Go.wpList _ _ _ ({ dst := none, op := Go.Op.store 28 _ _, type := _, pos := _, after := _, guard := none } :: _) _ _; refine st4 rfl rfl hone hM3 ?_)
    intro w4 hM4 o4
    have b4 := var4 o4
    have HJ4 := Lib.hid (HJ3.out.below b4)
    have HB4 := Lib.hid (HB3.out.trans (b4.mono HB3.out.size))
    obtain ⟨M, hM⟩ : ∃ M, w3.heap.size = M := ⟨_, rfl⟩
    rw [hM] at hM4 HS23 ⊢
    have HM4 := Lib.hid hM4
    have HOV4 := Lib.hid (own_off HOV3.out (Off.of_below b4) (fun _ _ h => h))
    clear hM3 o4 b4 hM hM4 HJ3 HB3 HOV3
    have HSP : Hid (0 < n → ∃ g, oA = some ⟨g, 0, none⟩ ∧ w.heap.size ≤ g ∧ g < w2.heap.size ∧ Spoil g n oc w1.heap.size w4) := Lib.hid (fun h0 => by
      have hov := HOV4.out
      rw [HN.out] at hov
      obtain ⟨g, cap, e, _, _⟩ := World.ownsRow.form hov h0
      injection e with e1 e2 e3
      subst e1 e3
      have := HO2.out g rfl
      exact ⟨g, rfl, this.1, this.2, _, hov, fun u hu => by
        unfold cellsB at hu
        obtain ⟨x, _, rfl⟩ := List.mem_map.1 hu
        exact ⟨_, rfl⟩⟩)
    clear HOV4
    go_wp2
    go_loopw [24] (fun i wr => ∃ j : Nat, j ≤ n ∧ i = .int .i64 j ∧ Hid (0 < n → ∃ g, oA = some ⟨g, 0, none⟩ ∧ w.heap.size ≤ g ∧ g < w2.heap.size ∧ Spoil g n oc w1.heap.size wr) ∧ Hid (Off (fun x => w.heap.size ≤ x ∧ x < w2.heap.size) w4 wr)) (fun i _ => n - (RowKit.intOf i).toNat)
    case atStart => exact ⟨0, Nat.zero_le _, rfl, HSP, Lib.hid (Off.refl _ _)⟩
    case round =>
      clear HSP
      obtain ⟨j, hj, rfl, HSP, HOF⟩ := hrel
      by_cases hjn : j < n
      · obtain ⟨g, rfl, hg1, hg2, xs, hown, hxs⟩ := HSP.out (by omega)
        have hxl : xs.length = n * 1 := hown.1
        obtain ⟨z, hz⟩ := hxs (xs[j]'(by omega)) (List.getElem_mem _)
        have y0 : wr.cell? ⟨g, j, none⟩ = some (.int .u8 z) := by
          rw [World.ownsRow.cellAt hown j (by omega), List.getElem?_eq_getElem (by omega), hz]
        have yf := World.ownsRow.frozenAt hown j
        have HST : Hid (∀ z', Spoil g n oc w1.heap.size (wr.setCell ⟨g, j, none⟩ (.int .u8 z'))) := Lib.hid (fun z' => ⟨_, (World.ownsRow.stored hown j (.int .u8 z')).1, fun u hu => by
          rcases List.mem_or_eq_of_mem_set hu with h | h
          · exact hxs u h
          · exact ⟨z', h⟩⟩)
        have HGG : Hid (w.heap.size ≤ g ∧ g < w2.heap.size) := Lib.hid ⟨hg1, hg2⟩
        have i0' : (0 : Int) ≤ (j : Int) := by omega
        have i1' : (j : Int) < (n : Int) := by omega
        clear hown hxs hxl hz hg1 hg2 HSP
        go_wp2
        exact ⟨⟨j + 1, by omega, rfl, Lib.hid (fun _ => ⟨g, rfl, HGG.out.1, HGG.out.2, HST.out _⟩), Lib.hid (HOF.out.trans (off_set7 _ _ _ _) (fun x h => .inl (by have := HGG.out; omega)))⟩, by show n - ((j : Int) + 1).toNat < n - (j : Int).toNat; omega⟩
      · obtain rfl : j = n := by omega
        have HB5 : Hid (Below w.heap.size w wr) := Lib.hid (((Off.of_below HB4.out).trans HOF.out (fun x h => .inr h.1)).below (fun _ h => h.elim))
        have HM5 := Lib.hid (HM4.out.off HOF.out (fun h => by have := HS23.out; omega))
        have HJ5 := Lib.hid (JR.off HOF.out (fun x hx h => by omega) _ _ HJ4.out)
        have P2 := rparse_any (c := c) HN.out (HB.out.below HB5.out)
        rw [HP.out] at P2
        have HP2 := Lib.hid P2
        obtain ⟨V, hV⟩ : ∃ V, V = wr := ⟨_, rfl⟩
        subst hV
        clear P2 HSP HOF HM4 HJ4 HB4
        go_wp2_with fail
        refine HP2.out.mono ?_
        clear HP2
        rintro e w6 hx
        obtain ⟨b6, y0, y1, y2, y3, rfl, hone6, hj6⟩ := hx.at
        have hM6 : JZ w6.heap.size (w6.alloc (.cells #[.int .i64 0, .string ⟨#[]⟩, .slice none 0 0, .slice none 0 0] 28)) := Blk.new _ w6
        have HK6 := Lib.hid hj6
        have HB6 := Lib.hid (HB5.out.trans (b6.mono HB5.out.size))
        have HM6 := Lib.hid (HM5.out.below b6)
        have HJ6 := Lib.hid (HJ5.out.below b6)
        rw [HZ1.out]
        clear hx b6 hj6 HM5 HJ5 HB5
        go_upto_region 13 with (guard_target =~ Go.wpList _ _ _ ({ dst := none, op := Go.Op.store 28 _ _, type := _, pos := _, after := _, guard := none } :: _) _ _; refine st4 rfl rfl hone6 hM6 ?_)
        intro w7 hM7 o7
        have b7 := var4 o7
        have HB7 := Lib.hid (HB6.out.trans (b7.mono HB6.out.size))
        have h9 := HM6.out.below b7
        have k9 := hM7
        have m0 := h9.c0
        have m1 := h9.c1
        have m2 := h9.c2
        have m3 := h9.c3
        have q0 := k9.c0
        have q1 := k9.c1
        have q2 := k9.c2
        have q3 := k9.c3
        have HS := Lib.hid (rsame_any _ _ 70000 (exV p) _ _ w7 (exV_size HP.out) (by decide) (HJ6.out.below b7) (HK6.out.below b7))
        clear hM6 hM7 o7 b7 HM6 HJ6 HK6 HB6 h9 k9
        have hzz : (z1 == z1) = true := by simp
        go_wp2_with (go_at_call 12; (with_reducible refine HS.out.mono ?_); rintro e w8 ⟨rfl, b8⟩)
        go_ret
        exact ⟨rfl, HB7.out.trans (b8.mono HB7.out.size)⟩
end Go.Proofs.YtchgelfomnbpaaaDoor
