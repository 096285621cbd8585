/-
  Of the proofs of layer 8 (elements of XML): the parts YOb YOd. No conditions.
-/
import Derived.Test.YtklcjimmbkpbdaaGreatDoorZ29
import Derived.Test.YtklcjimmbkpbdaaGreatDoorZ30
import Derived.Deep.DeepCutAuto
namespace Go.Proofs.YtklcjimmbkpbdaaGreatDoor
open Go.RowKit
open Go.Lib
theorem fields_mark8 : Tryz.prog.fieldsOf TMk = #[{ name := "Prefix", type := 9, offset := 0, embedded := false, tag := "", pkgPath := "", byteOffset := 0 }, { name := "Name", type := 9, offset := 1, embedded := false, tag := "", pkgPath := "", byteOffset := 16 }, { name := "Value", type := 9, offset := 2, embedded := false, tag := "", pkgPath := "", byteOffset := 32 }, { name := "Has", type := 4, offset := 3, embedded := false, tag := "", pkgPath := "", byteOffset := 48 }] := by
 unfold Program.fieldsOf; rw [Tryz.underlying84]
theorem neq_mark8 (a b c a' b' c' : Bt) (d d' : Bool) (W : World) : (binOp .neq TMk (.agg #[sV a, sV b, sV c, .bool d]) (.agg #[sV a', sV b', sV c', .bool d'])).run Tryz.prog W = .ok (.bool (!((a == a') && (b == b') && (c == c') && (d == d')))) W := by
 have h1 : Tryz.prog.stoodInHeld TMk = false := by kernel_rfl
 rw [run_neq_struct, run_equalIn_agg W 9999 TMk _ _ (by rw [fields_mark8]; exact Tryz.underlying84) h1, fields_mark8]
 simp [go_sem, Op.eqFields, Tryz.underlying9, Tryz.underlying4]
 simp only [bs_toList]
 by_cases h1 : a = a' <;> by_cases h2 : b = b' <;> by_cases h3 : c = c' <;> by_cases h4 : d = d' <;> simp [h1, h2, h3, h4]
theorem own0 (W : World) (B : Nat) (hB : B ≤ W.heap.size) : (W.alloc (.cells #[] TSp)).ownsRow B TSp 2 (.slice (some ⟨W.heap.size, 0, none⟩) 0 0) 0 [] :=
 ⟨rfl, .inr ⟨W.heap.size, 0, #[], rfl, hB, Blk.new _ _, Nat.le_refl _, Nat.zero_le _, rfl, rfl⟩⟩
theorem Tryz.info8P : (Tryz.prog.info? TSp).map (fun i => (i.zero, i.size, i.bytes)) = some (some (.agg #[.string ⟨#[]⟩, .string ⟨#[]⟩]), 2, 32) := by kernel_rfl
theorem appSp {ops : Array Oper} {rest : List Oper} {o : Oper} {a : Act} {Q : Exit → Act → World → Prop} (hgd : o.guard = none) (s x : Operand)
    (ho : o.op = .call { callee := .builtin .append, args := #[s, x], argTypes := #[66, 66] }) (w : World) (B : Nat) {T : Nat → Prop} {A : Option Addr} {c n : Nat} {l : XS} (hR : RC w T A (cS l)) (hn : l.length = n) (hl : 0 < n) (hl9 : n ≤ 1000000)
    (hs : a.eval s = .slice (some ⟨w.heap.size, 0, none⟩) 0 0) (hx : a.eval x = .slice A n c) (hB : B ≤ w.heap.size)
    (h : ∀ v' w', w'.ownsRow B TSp 2 v' n (cS l) → Off (fun b => w.heap.size ≤ b) w w' → wpList Tryz.prog ops Q rest (a.put o.dst v') w') :
    wpList Tryz.prog ops Q (o :: rest) a (w.alloc (.cells #[] TSp)) := by
 obtain ⟨i0, hi, hz0, hz1, hz2⟩ := info_parts Tryz.info8P
 obtain ⟨b, off, rfl, hT, hbl, hc⟩ := hR (by rw [cS_len]; omega)
 have hbw := below_alloc8 w (.cells #[] TSp)
 refine wpList_append_own_at _ hgd s x 66 ho B TSp i0 _ 2 32 Tryz.underlying66 hi hz0 hz1 hz2 rfl (by decide) _ 0 [] hs (own0 w B hB) ⟨b, off, none⟩ n c (cS l) hx (by rw [cS_len, hn])
  (fun j u hj => by rw [Addr.add_mid]; exact (hbw.cell (p := ⟨b, off + j, none⟩) hbl).trans (hc j u hj)) (fun u hu => ?_) (by unfold maxLen; omega) (by omega) (by simp; omega) ?_
 ·unfold cS at hu
  obtain ⟨d, _, hd⟩ := List.mem_flatMap.1 hu
  simp only [fS, List.mem_cons, List.not_mem_nil, or_false] at hd
  rcases hd with rfl | rfl <;> rfl
 ·intro v' w' h1 h2 _ _
  rw [List.nil_append, Nat.zero_add] at h1
  refine h v' w' h1 (((Off.of_below hbw).mono (fun _ h => h.elim)).trans (Off.of_grown h2) (fun b hb => .inl ?_))
  have : w.heap.size = b := Option.some.inj hb
  omega
theorem own_rc {w : World} {B k n c : Nat} {e : TypeId} {A : Option Addr} {cs : List Value} (h : w.ownsRow B e k (.slice A n c) n cs) (T : Nat → Prop) (hT : ∀ b, (Value.slice A n c).ownBlock = some b → T b) : RC w T A cs := by
 obtain ⟨A', c', e, _, hr⟩ := RC.of_own h T hT
 injection e with e1 _ _
 subst e1
 exact hr
theorem own_form {w : World} {B k n : Nat} {e : TypeId} {v : Value} {cs : List Value} (h : w.ownsRow B e k v n cs) : ∃ A c, v = .slice A n c := by
 obtain ⟨A, c, e, _, _⟩ := RC.of_own h (fun _ => True) (fun _ _ => trivial)
 exact ⟨A, c, e⟩
theorem neq_mark9 {p n p' n' : Bt} {b b' f : Bool} (hf : (!((p == p') && (n == n') && (b == b'))) = f) (W : World) : (binOp .neq TMk (.agg #[sV p, sV n, .string ⟨#[]⟩, .bool b]) (.agg #[sV p', sV n', .string ⟨#[]⟩, .bool b'])).run Tryz.prog W = .ok (.bool f) W := by
 have h := neq_mark8 p n [] p' n' [] b b' W
 rw [show (([] : Bt) == ([] : Bt)) = true from rfl, Bool.and_true, hf] at h
 exact h
theorem stN5 {ops : Array Oper} {rest : List Oper} {act : Act} {w : World} {Q : Exit → Act → World → Prop} {ty : TypeId} {pos : String} {af : Array Edge} {i j b : Nat} {x0 x1 x2 x3 x4 y0 y1 y2 y3 y4 : Value}
    (hx : act.eval (.tmp i) = .pointer (some ⟨b, 0, none⟩)) (hy : act.eval (.tmp j) = .agg #[y0, y1, y2, y3, y4]) (h1 : (#[y0, y1, y2, y3, y4] : Array Value).all (·.oneCell') = true) (H : Blk b (.cells #[x0, x1, x2, x3, x4] TNo) w)
    (k : ∀ w', Blk b (.cells #[y0, y1, y2, y3, y4] TNo) w' → OX b w w' → wpList Tryz.prog ops Q rest act w') :
    wpList Tryz.prog ops Q ({ dst := none, op := .store TNo (.tmp i) (.tmp j), type := ty, pos := pos, after := af, guard := none } :: rest) act w := by
 have ht : w.there b 0 5 := fun j hj => by
  rw [Nat.zero_add]
  refine ⟨?_, Blk.free H j⟩
  rw [Blk.cell H j, Array.getElem?_eq_getElem (by show j < 5; exact hj)]
  rfl
 have hB : Blk b (.cells #[y0, y1, y2, y3, y4] TNo) (w.setCells b 0 [y0, y1, y2, y3, y4]) := by
  have h := ((((H.set 0 y0).set 1 y1).set 2 y2).set 3 y3).set 4 y4
  have h2 : Blk b (.cells #[y0, y1, y2, y3, y4] TNo) (((((w.setCell ⟨b, 0, none⟩ y0).setCell ⟨b, 1, none⟩ y1).setCell ⟨b, 2, none⟩ y2).setCell ⟨b, 3, none⟩ y3).setCell ⟨b, 4, none⟩ y4) := by simpa using h
  exact h2
 exact wpList_store_mid rfl _ _ _ rfl b 0 #[y0, y1, y2, y3, y4] hx hy ht (by kernel_rfl) h1 (k _ hB (off_sets8 _ _ _ _))
theorem NSt.xr {B R N : Nat} {sp nm : Bt} {al : List XA} {ks : List XV} {av kv : Value} {cs : List Value} {W : World} (h : NSt B R N sp nm al ks av kv cs W) : ∃ Aa ca kA kc, av = .slice Aa al.length ca ∧ kv = .slice kA ks.length kc ∧ XR W (fun b => B ≤ b ∧ b < W.heap.size ∧ ¬ b = R) (.mk sp nm al ks []) (.agg #[sV sp, sV nm, .slice Aa al.length ca, .slice kA ks.length kc, .string ⟨#[]⟩]) := by
 have hT : ∀ b, Tn B R N kv W b → (B ≤ b ∧ b < W.heap.size ∧ ¬ b = R) := fun b hb => ⟨hb.1, hb.2.1, hb.2.2.1⟩
 obtain ⟨Aa, ca, e1, ha⟩ := h.att
 obtain ⟨kA, kc, e2, hk⟩ := RN8.of_own (T' := fun b => B ≤ b ∧ b < W.heap.size ∧ ¬ b = R) h.kids rfl h.read hT (fun b hb => by have := World.ownsRow.lt h.kids b hb; have := h.bR; have := h.rN; exact ⟨by omega, by omega, by omega⟩)
 exact ⟨Aa, ca, kA, kc, e1, e2, XR.of (tx := []) (ha.mono hT) hk⟩
theorem size_mark8 (W : World) : (Go.sizeOf TMk).run Tryz.prog W = .ok 4 W := size_of (by kernel_rfl) W
def cutM (A : Option Addr) (c : Nat) : Option Addr := if c = 0 then A else A.map fun a => a.add (0 * 4)
theorem cutM_eq (b o c : Nat) : cutM (some ⟨b, o, none⟩) c = some ⟨b, o, none⟩ := by
 unfold cutM
 split
 ·rfl
 ·rw [Nat.zero_mul]; show some (Addr.add ⟨b, o, none⟩ 0) = _; rw [Addr.add_mid]; rfl
theorem cut_marks0 (A : Option Addr) (n c i : Nat) (hi : i ≤ c) (U : World) : (Instr.slice 87 (.slice A n c) none (some (.int .i64 (i : Int))) none).run Tryz.prog U = .ok (.slice (cutM A c) i c) U := by
 have he : Tryz.prog.elem 87 = TMk := by kernel_rfl
 rw [run_slice_h U 87 A n c (by rw [he]; exact Tryz.underlying87) .i64 (i : Int) (by omega) (by omega), he, size_mark8]
 rfl
theorem cut_marks (b o n c i : Nat) (hi : i ≤ c) (U : World) : (Instr.slice 87 (.slice (some ⟨b, o, none⟩) n c) none (some (.int .i64 (i : Int))) none).run Tryz.prog U = .ok (.slice (some ⟨b, o, none⟩) i c) U := by
 rw [cut_marks0 _ _ _ _ hi, cutM_eq]
theorem ElO.bad {X : Nat} {s : Bt} {o : Except Int (XV × Bt)} {w w' : World} {z : Int} (h : o = .error z) (hz : z ≠ 0) (ho : OX X w w') : ElO X s o w (.returned (.tuple #[zNV, .int .i64 z])) w' := by subst h; exact ⟨ho, rfl, hz⟩
structure E1S (X R M B : Nat) (mk : Array Value) (w : World) (s s2 : Bt) (A : Option Addr) (ms : List XM) (W : World) : Prop where
 res : Blk R ZN W
 mark : Blk M (.cells mk TMk (0, 0)) W
 off : OX X w W
 tl : TL X s s2 W
 row : RC W (fun b => b < B) A (cQ ms)
 rB : R < B
 mB : M < B
 xB : X < B
 wB : w.heap.size ≤ B
 bw : B ≤ W.heap.size
section
variable {X R M B : Nat} {mk : Array Value} {w W W' : World} {s s2 : Bt} {A : Option Addr} {ms : List XM}
theorem E1S.step {F : Nat → Prop} (h : E1S X R M B mk w s s2 A ms W) (ho : Off F W W') (hF : ∀ b, F b → B ≤ b) : E1S X R M B mk w s s2 A ms W' :=
 ⟨ho.blk h.res (fun e => by have := hF _ e; have := h.rB; omega), ho.blk h.mark (fun e => by have := hF _ e; have := h.mB; omega), Off.trans h.off ho (fun b hb => .inr (Nat.le_trans h.wB (hF b hb))), h.tl.off ho (fun e => by have := hF _ e; have := h.xB; omega), h.row.off ho (fun b hb e => by have := hF b e; omega), h.rB, h.mB, h.xB, h.wB, Nat.le_trans h.bw ho.size⟩
theorem E1S.below (h : E1S X R M B mk w s s2 A ms W) (hb : Below W.heap.size W W') : E1S X R M B mk w s s2 A ms W' := h.step (Off.of_below hb) (fun _ h => h.elim)
end
abbrev NW (w w' : World) : Prop := Off (fun _ => False) w w'
theorem NW.ox {X : Nat} {w w' w2 : World} (h : NW w w') (h2 : OX X w' w2) (hX : w.heap.size ≤ X) : NW w w2 := Off.trans h h2 (fun b hb => .inr (by rw [hb]; exact hX))
theorem NW.below {w w' w2 : World} (h : NW w w') (h2 : Below w'.heap.size w' w2) : NW w w2 := Off.trans h (Off.of_below h2) (fun _ h => h.elim)
theorem parse_docX {b : Bt} (h : ¬ 65536 < b.length) : parseX b = if plainB (unbomL b) = true then docX (unbomL b) else (zeroX, 70) := by unfold parseX; rw [if_neg h]
set_option maxRecDepth 100000 in
set_option maxHeartbeats 4000000 in
theorem rparse8 (hEl0 : ElC 0) {b : Bt} {A : Option Addr} {n c : Nat} {w : World} (hn : b.length = n) (hb : RB w A b) : Calls Tryz.prog 11 #[.slice A n c] w (PaO (parseX b) w) := by
 obtain ⟨R, hR⟩ : ∃ R, w.heap.size = R := ⟨_, rfl⟩
 have hB := below_alloc8 w ZN
 have hRb := Blk.new ZN w
 rw [hR] at hRb
 have hRw : w.heap.size ≤ R := Nat.le_of_eq hR
 by_cases hbig : 65536 < n
 ·have hbi : (65536 : Int) < (n : Int) := by omega
  have HF : Hid (parseX b = (zeroX, 72)) := hid (by unfold parseX; rw [if_pos (by rw [hn]; exact hbig)])
  have hRx := hRb
  have HOx : Hid (NW w (w.alloc ZN)) := hid (Off.of_below hB)
  clear hn hb hbig hRb hB
  go_enter Tryz.func11, Tryz.ntmps11
  go_wp2_with (guard_target =~ Go.wpList _ _ _ ({ dst := none, op := Go.Op.store TNo _ _, type := _, pos := _, after := _, guard := none } :: _) _ _; refine stN5 rfl rfl (all5 rfl rfl rfl rfl rfl) hRx ?_)
  intro wz hz oz
  have d0 := hz.cell 0
  have d1 := hz.cell 1
  have d2 := hz.cell 2
  have d3 := hz.cell 3
  have d4 := hz.cell 4
  have HOz := hid (NW.ox HOx.out oz hRw)
  clear hz oz
  go_wp2
  refine bodyPost_ret (v := .tuple #[zNV, .int .i64 72]) ?_ rfl ?_
  ·simp [results, Tryz.results11, go_sem, d0, d1, d2, d3, d4]
  exact PaO.bad HF.out HOz.out
 ·have hbi : ¬ (65536 : Int) < (n : Int) := by omega
  have HPX := hid (parse_docX (b := b) (by rw [hn]; exact hbig))
  obtain ⟨o, ho⟩ : ∃ o, parseX b = o := ⟨_, rfl⟩
  rw [ho] at HPX ⊢
  have hcv := conv_slice8 c hn (hb.below hB)
  have hbl : b.length ≤ 65536 := by omega
  have hs0 : (w.alloc ZN).heap.size = R + 1 := by simp [hR]
  obtain ⟨X, hX⟩ : ∃ X, R + 1 = X := ⟨_, rfl⟩
  have hTS : TS (w.alloc ZN).heap.size b 0 ((w.alloc ZN).alloc (.cells #[.string (bs b), .int .i64 0] TT (0, 0))) := Blk.new _ _
  rw [hs0, hX] at hTS
  have b2 := below_alloc8 (w.alloc ZN) (.cells #[.string (bs b), .int .i64 0] TT (0, 0))
  have HR2 := hid ((Off.of_below b2).blk hRb (fun h => h))
  have HO2 : Hid (NW w ((w.alloc ZN).alloc (.cells #[.string (bs b), .int .i64 0] TT (0, 0)))) := hid (Off.of_below (hB.trans (b2.mono hB.size)))
  have HT2 := hid hTS
  have hXw : w.heap.size ≤ X := by omega
  have hRX : R < X := by omega
  have HLK : Hid (Calls Tryz.prog 31 #[.pointer (some ⟨X, 0, none⟩), .string ⟨#[239, 187, 191]⟩] ((w.alloc ZN).alloc (.cells #[.string (bs b), .int .i64 0] TT (0, 0))) (fun e w' => e = .returned (.bool (bomW.isPrefixOf b)) ∧ Below ((w.alloc ZN).alloc (.cells #[.string (bs b), .int .i64 0] TT (0, 0))).heap.size ((w.alloc ZN).alloc (.cells #[.string (bs b), .int .i64 0] TT (0, 0))) w')) := hid (tlooks_any hTS (Nat.zero_le _) (by omega) bomW (by decide) (by decide) _ rfl)
  have hbz : (bs b).size = n := by rw [bs_size, hn]
  have HSL : Hid (bomW.isPrefixOf b = true → ∀ W, (Instr.slice 9 (.string (bs b)) (some (.int .i64 3)) none none).run Tryz.prog W = .ok (.string (bs (b.drop 3))) W) := hid (fun h W => slice_back8 b 3 (by have := (List.isPrefixOf_iff_prefix.1 h).length_le; exact this) W)
  have HU : Hid (unbomL b = if bomW.isPrefixOf b = true then b.drop 3 else b) := hid rfl
  have HUL : Hid ((unbomL b).length ≤ 65536) := hid (by unfold unbomL; split; · rw [List.length_drop]; omega
                                                        ·exact hbl)
  obtain ⟨u, hu⟩ : ∃ u, unbomL b = u := ⟨_, rfl⟩
  rw [hu] at HPX HU HUL
  obtain ⟨bm, hbm⟩ : ∃ x, bomW.isPrefixOf b = x := ⟨_, rfl⟩
  rw [hbm] at HLK HSL HU
  clear ho hn hb hB hRb hbl hTS b2 hu hbm hbig
  go_enter Tryz.func11, Tryz.ntmps11
  go_wp2_with fail
  try rw [hX]
  refine HLK.out.mono ?_
  rintro e w3 ⟨rfl, b3⟩
  have HT3 := hid (HT2.out.below b3)
  have HR3 := hid ((Off.of_below b3).blk HR2.out (fun h => h))
  have HO3 := hid (NW.below HO2.out b3)
  clear b3 HT2 HR2 HO2 HLK hcv hs0 hX
  go_upto_if 16 with fail
  go_cut [] (fun wx => Hid (TS X u 0 wx ∧ Blk R ZN wx ∧ NW w wx))
  case first =>
   cases bm with
   | false =>
    have HE : Hid (u = b) := hid HU.out
    go_wp2_with fail
    go_meet
    exact hid ⟨by rw [HE.out]; exact HT3.out, HR3.out, HO3.out⟩
   | true =>
    have HE : Hid (u = b.drop 3) := hid HU.out
    have hsl := HSL.out rfl
    have c0 := HT3.out.c0
    have f0 := HT3.out.free 0
    have ho : OX X w3 (w3.setCell ⟨X, 0, none⟩ (.string (bs (b.drop 3)))) := off_set8 _ _ _ _
    have HN : Hid (TS X u 0 (w3.setCell ⟨X, 0, none⟩ (.string (bs (b.drop 3)))) ∧ Blk R ZN (w3.setCell ⟨X, 0, none⟩ (.string (bs (b.drop 3)))) ∧ NW w (w3.setCell ⟨X, 0, none⟩ (.string (bs (b.drop 3))))) := hid ⟨by rw [HE.out]; show Blk X (.cells #[.string (bs (b.drop 3)), .int .i64 ((0 : Nat) : Int)] TT (0, 0)) _; have := Blk.set HT3.out 0 (.string (bs (b.drop 3))); simpa using this, ho.blk HR3.out (fun e => by omega), NW.ox HO3.out ho hXw⟩
    clear ho
    go_wp2_with fail
    go_meet
    exact HN
  case rest =>
   obtain ⟨w4, hw4⟩ : ∃ W, W = wc := ⟨_, rfl⟩
   subst hw4
   have HI4 := hcut
   clear hcut HT3 HR3 HO3 HSL HU
   have hul := HUL.out
   have hu9 : u.length ≤ 1000000000 := by omega
   have HPL := hid (rplain8_any u w4 (by omega))
   unfold BoO at HPL
   have HAR := hid (fun W q (hW : TL X u q W) oo (hoo : aroundL q = oo) => taround8 hW hu9 oo hoo)
   unfold ArO at HAR
   have HW2 : Hid (WdC X u [60] ⟨#[60]⟩) := hid (wdC X hu9 [60] (by decide) (by decide))
   unfold WdC at HW2
   have huz : (bs u).size = u.length := bs_size u
   obtain ⟨nu, hnu⟩ : ∃ n, u.length = n := ⟨_, rfl⟩
   rw [hnu] at huz
   have HNU := hid hnu
   have c0 := HI4.out.1.c0
   clear hul hnu
   cases hp : plainB u with
   | false =>
    have HF : Hid (o = (zeroX, 70)) := hid (by rw [HPX.out, if_neg (by rw [hp]; exact Bool.false_ne_true)])
    rw [hp] at HPL
    clear hp
    go_wp2_with fail
    refine HPL.out.mono ?_
    rintro e w5 ⟨rfl, b5⟩
    have hRx := (Off.of_below b5).blk HI4.out.2.1 (fun h => h)
    have HOx := hid (NW.below HI4.out.2.2 b5)
    clear b5 c0
    go_wp2_with (guard_target =~ Go.wpList _ _ _ ({ dst := none, op := Go.Op.store TNo _ _, type := _, pos := _, after := _, guard := none } :: _) _ _; refine stN5 rfl rfl (all5 rfl rfl rfl rfl rfl) hRx ?_)
    intro wz hz oz
    have d0 := hz.cell 0
    have d1 := hz.cell 1
    have d2 := hz.cell 2
    have d3 := hz.cell 3
    have d4 := hz.cell 4
    have HOz := hid (NW.ox HOx.out oz hRw)
    clear hz oz
    go_wp2
    refine bodyPost_ret (v := .tuple #[zNV, .int .i64 70]) ?_ rfl ?_
    ·simp [results, Tryz.results11, go_sem, d0, d1, d2, d3, d4]
    exact PaO.bad HF.out HOz.out
   | true =>
    have HPD : Hid (o = docX u) := hid (by rw [HPX.out, if_pos hp])
    rw [hp] at HPL
    clear hp HPX
    go_wp2_with fail
    refine HPL.out.mono ?_
    rintro e w5 ⟨rfl, b5⟩
    have HT5 : Hid (TL X u u w5) := hid (by have h := TL.of (HI4.out.1.below b5) (Nat.zero_le _); rwa [List.drop_zero] at h)
    have HR5 := hid ((Off.of_below b5).blk HI4.out.2.1 (fun h => h))
    have HO5 := hid (NW.below HI4.out.2.2 b5)
    clear b5 HI4 HPL c0
    cases ha : aroundL u with
    | none =>
     have HF : Hid (o = (zeroX, 70)) := hid (by rw [HPD.out]; unfold docX; rw [ha])
     have HC := hid (HAR.out w5 u HT5.out _ ha)
     clear ha
     go_wp2_with fail
     refine HC.out.mono ?_
     rintro e w6 ⟨o6, rfl⟩
     have hRx := o6.blk HR5.out (fun e => by omega)
     have HOx := hid (NW.ox HO5.out o6 hXw)
     clear o6
     go_wp2_with (guard_target =~ Go.wpList _ _ _ ({ dst := none, op := Go.Op.store TNo _ _, type := _, pos := _, after := _, guard := none } :: _) _ _; refine stN5 rfl rfl (all5 rfl rfl rfl rfl rfl) hRx ?_)
     intro wz hz oz
     have d0 := hz.cell 0
     have d1 := hz.cell 1
     have d2 := hz.cell 2
     have d3 := hz.cell 3
     have d4 := hz.cell 4
     have HOz := hid (NW.ox HOx.out oz hRw)
     clear hz oz
     go_wp2
     refine bodyPost_ret (v := .tuple #[zNV, .int .i64 70]) ?_ rfl ?_
     ·simp [results, Tryz.results11, go_sem, d0, d1, d2, d3, d4]
     exact PaO.bad HF.out HOz.out
    | some s1 =>
     have HC := hid (HAR.out w5 u HT5.out _ ha)
     go_wp2_with fail
     refine HC.out.mono ?_
     rintro e w6 ⟨o6, rfl, t6⟩
     have HR6 := hid (o6.blk HR5.out (fun e => by omega))
     have HO6 := hid (NW.ox HO5.out o6 hXw)
     have HT6 := hid t6
     clear o6 t6 HR5 HO5 HT5 HC
     cases hw : wordL [60] s1 with
     | none =>
      have HF : Hid (o = (zeroX, 70)) := hid (by rw [HPD.out]; unfold docX; rw [ha]; simp only [hw])
      have HC := hid (HW2.out w6 s1 _ HT6.out hw)
      clear ha hw
      go_wp2_with fail
      refine HC.out.mono ?_
      rintro e w7 ⟨rfl, t7, o7⟩
      have hRx := o7.blk HR6.out (fun e => by omega)
      have HOx := hid (NW.ox HO6.out o7 hXw)
      clear o7 t7
      go_wp2_with (guard_target =~ Go.wpList _ _ _ ({ dst := none, op := Go.Op.store TNo _ _, type := _, pos := _, after := _, guard := none } :: _) _ _; refine stN5 rfl rfl (all5 rfl rfl rfl rfl rfl) hRx ?_)
      intro wz hz oz
      have d0 := hz.cell 0
      have d1 := hz.cell 1
      have d2 := hz.cell 2
      have d3 := hz.cell 3
      have d4 := hz.cell 4
      have HOz := hid (NW.ox HOx.out oz hRw)
      clear hz oz
      go_wp2
      refine bodyPost_ret (v := .tuple #[zNV, .int .i64 70]) ?_ rfl ?_
      ·simp [results, Tryz.results11, go_sem, d0, d1, d2, d3, d4]
      exact PaO.bad HF.out HOz.out
     | some s2 =>
      have HPE : Hid (o = match elemX 0 scope0 s2 with
       | .error e => (zeroX, e)
       | .ok (v, s3) => match aroundL s3 with
        | none => (zeroX, 70)
        | some r => if r = [] then (v, 0) else (zeroX, 70)) := hid (by rw [HPD.out]; unfold docX; rw [ha]; simp only [hw]; rfl)
      have HC := hid (HW2.out w6 s1 _ HT6.out hw)
      have hl2 := word_len hw
      have hl1 := HT6.out.le
      clear ha hw HPD
      go_wp2_with fail
      refine HC.out.mono ?_
      rintro e w7 ⟨rfl, t7, o7⟩
      have t7' : TL X u s2 w7 := t7
      have HR7 := hid (o7.blk HR6.out (fun e => by omega))
      have HO7 := hid (NW.ox HO6.out o7 hXw)
      have b8 := below_alloc8 w7 (.cells #[.string ⟨#[]⟩, .string ⟨#[]⟩, .string ⟨#[120, 109, 108]⟩, .string ⟨#[104, 116, 116, 112, 58, 47, 47, 119, 119, 119, 46, 119, 51, 46, 111, 114, 103, 47, 88, 77, 76, 47, 49, 57, 57, 56, 47, 110, 97, 109, 101, 115, 112, 97, 99, 101]⟩] TSp (0, 0))
      have hSb := Blk.new (.cells #[.string ⟨#[]⟩, .string ⟨#[]⟩, .string ⟨#[120, 109, 108]⟩, .string ⟨#[104, 116, 116, 112, 58, 47, 47, 119, 119, 119, 46, 119, 51, 46, 111, 114, 103, 47, 88, 77, 76, 47, 49, 57, 57, 56, 47, 110, 97, 109, 101, 115, 112, 97, 99, 101]⟩] TSp (0, 0)) w7
      obtain ⟨S, hS⟩ : ∃ S, w7.heap.size = S := ⟨_, rfl⟩
      have hXS : X < S := by have := t7'.lt; omega
      rw [hS] at hSb
      have hRC : RC (w7.alloc (.cells #[.string ⟨#[]⟩, .string ⟨#[]⟩, .string ⟨#[120, 109, 108]⟩, .string ⟨#[104, 116, 116, 112, 58, 47, 47, 119, 119, 119, 46, 119, 51, 46, 111, 114, 103, 47, 88, 77, 76, 47, 49, 57, 57, 56, 47, 110, 97, 109, 101, 115, 112, 97, 99, 101]⟩] TSp (0, 0))) (fun b => b = S) (some ⟨S, 0, none⟩) (cS scope0) := fun _ => ⟨S, 0, rfl, rfl, hSb.lt, fun j u hj => by
       rw [Nat.zero_add, hSb.cell]
       match j, hj with
       | 0, hj => exact hj
       | 1, hj => exact hj
       | 2, hj => exact hj
       | 3, hj => exact hj
       | j + 4, hj => cases hj⟩
      have HEC : Hid (Calls Tryz.prog 34 #[.pointer (some ⟨X, 0, none⟩), .int .i64 0, .slice (some ⟨S, 0, none⟩) 2 2] (w7.alloc (.cells #[.string ⟨#[]⟩, .string ⟨#[]⟩, .string ⟨#[120, 109, 108]⟩, .string ⟨#[104, 116, 116, 112, 58, 47, 47, 119, 119, 119, 46, 119, 51, 46, 111, 114, 103, 47, 88, 77, 76, 47, 49, 57, 57, 56, 47, 110, 97, 109, 101, 115, 112, 97, 99, 101]⟩] TSp (0, 0))) (ElO X u (elemX 0 scope0 s2) (w7.alloc (.cells #[.string ⟨#[]⟩, .string ⟨#[]⟩, .string ⟨#[120, 109, 108]⟩, .string ⟨#[104, 116, 116, 112, 58, 47, 47, 119, 119, 119, 46, 119, 51, 46, 111, 114, 103, 47, 88, 77, 76, 47, 49, 57, 57, 56, 47, 110, 97, 109, 101, 115, 112, 97, 99, 101]⟩] TSp (0, 0))))) := hid (hEl0 X u s2 _ (fun b => b = S) (some ⟨S, 0, none⟩) 2 scope0 (t7'.below b8) (by have := HUL.out; rw [HNU.out]; rw [HNU.out] at this; omega) hRC (fun b hb => by omega) (by have h0 : scope0.length = 2 := rfl; have h1 := HUL.out; simp only [List.length_cons, List.length_nil] at hl2; omega) (by decide))
      have HR8 := hid ((Off.of_below b8).blk HR7.out (fun h => h))
      have HO8 := hid (NW.below HO7.out b8)
      have hS8 : (w7.alloc (.cells #[.string ⟨#[]⟩, .string ⟨#[]⟩, .string ⟨#[120, 109, 108]⟩, .string ⟨#[104, 116, 116, 112, 58, 47, 47, 119, 119, 119, 46, 119, 51, 46, 111, 114, 103, 47, 88, 77, 76, 47, 49, 57, 57, 56, 47, 110, 97, 109, 101, 115, 112, 97, 99, 101]⟩] TSp (0, 0))).heap.size = S + 1 := by simp [hS]
      unfold ElO at HEC
      clear t7 t7' o7 b8 hSb hRC HC HR6 HO6 HT6 HR7 HO7
      cases he : elemX 0 scope0 s2 with
      | error z =>
       have HF : Hid (o = (zeroX, z)) := hid (by rw [HPE.out, he])
       rw [he] at HEC
       clear he HPE
       go_wp2_with fail
       refine HEC.out.mono ?_
       rintro e w9 ⟨o9, rfl, hz0⟩
       have hz1 : ((z : Int) == 0) = false := by simpa using hz0
       have hz2 : (z != 0) = true := by simpa using hz0
       have b10 := below_alloc8 w9 ZN
       have hRx := (Off.of_below b10).blk (o9.blk HR8.out (fun e => by omega)) (fun h => h)
       have HOx := hid (NW.below (NW.ox HO8.out o9 hXw) b10)
       clear o9 b10
       go_wp2_with (guard_target =~ Go.wpList _ _ _ ({ dst := none, op := Go.Op.store TNo _ _, type := _, pos := _, after := _, guard := none } :: _) _ _; refine stN5 rfl rfl (all5 rfl rfl rfl rfl rfl) hRx ?_)
       intro wz hz oz
       have d0 := hz.cell 0
       have d1 := hz.cell 1
       have d2 := hz.cell 2
       have d3 := hz.cell 3
       have d4 := hz.cell 4
       have HOz := hid (NW.ox HOx.out oz hRw)
       clear hz oz
       go_wp2
       refine bodyPost_ret (v := .tuple #[zNV, .int .i64 z]) ?_ rfl ?_
       ·simp [results, Tryz.results11, go_sem, d0, d1, d2, d3, d4]
       exact PaO.bad HF.out HOz.out
      | ok y =>
       obtain ⟨v, s3⟩ := y
       have HPF : Hid (o = match aroundL s3 with
        | none => (zeroX, 70)
        | some r => if r = [] then (v, 0) else (zeroX, 70)) := hid (by rw [HPE.out, he])
       rw [he] at HEC
       clear he HPE
       go_wp2_with fail
       refine HEC.out.mono ?_
       rintro e w9 ⟨o9, x, rfl, hx, t9, _⟩
       rw [hS8] at hx
       obtain ⟨yA, yc, ykA, ykc, rfl⟩ := xr_one hx
       obtain ⟨y0, hy0⟩ : ∃ s, v.space = s := ⟨_, rfl⟩
       obtain ⟨y1, hy1⟩ : ∃ s, v.name = s := ⟨_, rfl⟩
       obtain ⟨y4, hy4⟩ : ∃ s, v.text = s := ⟨_, rfl⟩
       obtain ⟨mA, hmA⟩ : ∃ s, v.attrs.length = s := ⟨_, rfl⟩
       obtain ⟨mK, hmK⟩ : ∃ s, v.kids.length = s := ⟨_, rfl⟩
       rw [hy0, hy1, hy4, hmA, hmK] at hx
       rw [hy0, hy1, hy4, hmA, hmK]
       obtain ⟨K, hK⟩ : ∃ K, w9.heap.size = K := ⟨_, rfl⟩
       have b10 := below_alloc8 w9 (.cells #[sV y0, sV y1, .slice yA mA yc, .slice ykA mK ykc, sV y4] TNo)
       have hKb := Blk.new (.cells #[sV y0, sV y1, .slice yA mA yc, .slice ykA mK ykc, sV y4] TNo) w9
       rw [hK] at hKb hx
       have hSK : S + 1 ≤ K := by have := o9.size; omega
       have HR10 := hid ((Off.of_below b10).blk (o9.blk HR8.out (fun e => by omega)) (fun h => h))
       have HO10 := hid (NW.below (NW.ox HO8.out o9 hXw) b10)
       have HK10 := hid hKb
       have HT10 := hid (t9.below b10)
       have HX10 := hid (hx.below b10)
       clear o9 hx t9 b10 hKb hy0 hy1 hy4 hmA hmK HEC HR8 HO8 hS8
       go_wp2
       obtain ⟨w10, hw10⟩ : ∃ W, w9.alloc (.cells #[sV y0, sV y1, .slice yA mA yc, .slice ykA mK ykc, sV y4] TNo) = W := ⟨_, rfl⟩
       rw [hw10] at HR10 HO10 HK10 HT10 HX10
       try rw [hw10]
       clear hw10
       have bd : Below w10.heap.size w10 w10.drew := below_drewN (Below.refl _ _) 1
       have HT11 := hid (HT10.out.below bd)
       have HR11 := hid ((Off.of_below bd).blk HR10.out (fun h => h))
       have HK11 := hid ((Off.of_below bd).blk HK10.out (fun h => h))
       have HO11 := hid (NW.below HO10.out bd)
       have HX11 := hid (HX10.out.below bd)
       refine wp_region_held_drew (S := fun _ => True) (by kernel_rfl) trivial (fun _ => ?_)
       clear bd HT10 HR10 HK10 HO10 HX10
       generalize w10.drew = z0 at *
       refine wpAnyH_take (i := 0) (v := .pointer (some ⟨X, 0, none⟩)) rfl (by kernel_rfl) (by kernel_rfl) (by kernel_rfl) (fun _ _ _ h => h) (Or.inl ⟨by rfl, by intro w hSw; clear hSw; go_simp⟩) (trivial) ?_
       change wpAnyH _ _ _ _ _ _ _ (Act.put _ (some 54) _) _
       try simp only [Act.put, zA8, zB8, zC8]
       cases ha : aroundL s3 with
       | none =>
        refine wpAnyH_ready (rs := [1]) (by kernel_rfl) (by simp) ?_
        refine AllReadyH.cons (o := { dst := some 55, op := .call { callee := .value (.func 32), args := #[.tmp 54], argTypes := _ }, type := _, pos := _, after := _, guard := none }) rfl (fun K0 hK => ?_) AllReadyH.nil
        go_simp
        (with_reducible refine (HAR.out z0 s3 HT11.out _ ha).mono ?_)
        rintro e z1 ⟨o12, rfl⟩
        have HR12 := hid (o12.blk HR11.out (fun e => by omega))
        have HK12 := hid (o12.blk HK11.out (fun e => by omega))
        have HO12 := hid (NW.ox HO11.out o12 hXw)
        have HX12 := hid (XR.off o12 (fun b hb e => by have := hb.1; omega) _ _ HX11.out)
        refine hK.out _ _ trivial (fun _ => ?_)
        clear hK o12
        try simp only [Act.put, zA8, zB8, zC8]
        refine wpAnyH_take (i := 2) (v := .bool true) rfl (by kernel_rfl) (by kernel_rfl) (by kernel_rfl) (fun _ _ _ h => h) (Or.inl ⟨by rfl, by intro w hSw; clear hSw; go_simp⟩) (trivial) ?_
        change wpAnyH _ _ _ _ _ _ _ (Act.put _ (some 56) _) _
        try simp only [Act.put, zA8, zB8, zC8]
        refine wpAnyH_take (i := 3) (v := .bool true) rfl (by kernel_rfl) (by kernel_rfl) (by kernel_rfl) (fun _ _ _ h => h) (Or.inl ⟨by rfl, by intro w hSw; clear hSw; go_simp⟩) (trivial) ?_
        change wpAnyH _ _ _ _ _ _ _ (Act.put _ (some 57) _) _
        try simp only [Act.put, zA8, zB8, zC8]
        refine wpAnyH_take (i := 4) (v := undef) rfl (by kernel_rfl) (by kernel_rfl) (by kernel_rfl) (fun _ _ _ h => h) (Or.inr ⟨by rfl, rfl⟩) (trivial) ?_
        change wpAnyH _ _ _ _ _ _ _ (Act.put _ (some 58) _) _
        try simp only [Act.put, zA8, zB8, zC8]
        refine wpAnyH_take (i := 5) (v := undef) rfl (by kernel_rfl) (by kernel_rfl) (by kernel_rfl) (fun _ _ _ h => h) (Or.inr ⟨by rfl, rfl⟩) (trivial) ?_
        change wpAnyH _ _ _ _ _ _ _ (Act.put _ (some 59) _) _
        try simp only [Act.put, zA8, zB8, zC8]
        refine wpAnyH_take (i := 6) (v := undef) rfl (by kernel_rfl) (by kernel_rfl) (by kernel_rfl) (fun _ _ _ h => h) (Or.inr ⟨by rfl, rfl⟩) (trivial) ?_
        change wpAnyH _ _ _ _ _ _ _ (Act.put _ (some 60) _) _
        try simp only [Act.put, zA8, zB8, zC8]
        refine wpAnyH_take (i := 7) (v := undef) rfl (by kernel_rfl) (by kernel_rfl) (by kernel_rfl) (fun _ _ _ h => h) (Or.inr ⟨by rfl, rfl⟩) (trivial) ?_
        change wpAnyH _ _ _ _ _ _ _ (Act.put _ (some 61) _) _
        try simp only [Act.put, zA8, zB8, zC8]
        refine wpAnyH_take (i := 8) (v := undef) rfl (by kernel_rfl) (by kernel_rfl) (by kernel_rfl) (fun _ _ _ h => h) (Or.inr ⟨by rfl, rfl⟩) (trivial) ?_
        change wpAnyH _ _ _ _ _ _ _ (Act.put _ (some 62) _) _
        try simp only [Act.put, zA8, zB8, zC8]
        refine wpAnyH_take (i := 9) (v := undef) rfl (by kernel_rfl) (by kernel_rfl) (by kernel_rfl) (fun _ _ _ h => h) (Or.inr ⟨by rfl, rfl⟩) (trivial) ?_
        change wpAnyH _ _ _ _ _ _ _ (Act.put _ (some 63) _) _
        try simp only [Act.put, zA8, zB8, zC8]
        refine wpAnyH_take (i := 10) (v := undef) rfl (by kernel_rfl) (by kernel_rfl) (by kernel_rfl) (fun _ _ _ h => h) (Or.inr ⟨by rfl, rfl⟩) (trivial) ?_
        change wpAnyH _ _ _ _ _ _ _ (Act.put _ (some 64) _) _
        try simp only [Act.put, zA8, zB8, zC8]
        refine wpAnyH_take (i := 11) (v := undef) rfl (by kernel_rfl) (by kernel_rfl) (by kernel_rfl) (fun _ _ _ h => h) (Or.inr ⟨by rfl, rfl⟩) (trivial) ?_
        change wpAnyH _ _ _ _ _ _ _ (Act.put _ (some 65) _) _
        try simp only [Act.put, zA8, zB8, zC8]
        refine wpAnyH_take (i := 12) (v := undef) rfl (by kernel_rfl) (by kernel_rfl) (by kernel_rfl) (fun _ _ _ h => h) (Or.inr ⟨by rfl, rfl⟩) (trivial) ?_
        change wpAnyH _ _ _ _ _ _ _ (Act.put _ (some 66) _) _
        try simp only [Act.put, zA8, zB8, zC8]
        refine wpAnyH_take (i := 13) (v := undef) rfl (by kernel_rfl) (by kernel_rfl) (by kernel_rfl) (fun _ _ _ h => h) (Or.inr ⟨by rfl, rfl⟩) (trivial) ?_
        change wpAnyH _ _ _ _ _ _ _ (Act.put _ (some 67) _) _
        try simp only [Act.put, zA8, zB8, zC8]
        refine wpAnyH_take (i := 14) (v := .bool true) rfl (by kernel_rfl) (by kernel_rfl) (by kernel_rfl) (fun _ _ _ h => h) (Or.inl ⟨by rfl, by intro w hSw; clear hSw; go_simp⟩) (trivial) ?_
        change wpAnyH _ _ _ _ _ _ _ (Act.put _ (some 68) _) _
        try simp only [Act.put, zA8, zB8, zC8]
        refine wpAnyH_done (by kernel_rfl) ?_ _
        have HF : Hid (o = (zeroX, 70)) := hid (by rw [HPF.out, ha])
        have hRx := HR12.out
        clear ha
        go_wp2_with (guard_target =~ Go.wpList _ _ _ ({ dst := none, op := Go.Op.store TNo _ _, type := _, pos := _, after := _, guard := none } :: _) _ _; refine stN5 rfl rfl (all5 rfl rfl rfl rfl rfl) hRx ?_)
        intro wz hz oz
        have d0 := hz.cell 0
        have d1 := hz.cell 1
        have d2 := hz.cell 2
        have d3 := hz.cell 3
        have d4 := hz.cell 4
        have HOz := hid (NW.ox HO12.out oz hRw)
        clear hz oz
        go_wp2
        refine bodyPost_ret (v := .tuple #[zNV, .int .i64 70]) ?_ rfl ?_
        ·simp [results, Tryz.results11, go_sem, d0, d1, d2, d3, d4]
        exact PaO.bad HF.out HOz.out
       | some s4 =>
        refine wpAnyH_ready (rs := [1]) (by kernel_rfl) (by simp) ?_
        refine AllReadyH.cons (o := { dst := some 55, op := .call { callee := .value (.func 32), args := #[.tmp 54], argTypes := _ }, type := _, pos := _, after := _, guard := none }) rfl (fun K0 hK => ?_) AllReadyH.nil
        go_simp
        (with_reducible refine (HAR.out z0 s3 HT11.out _ ha).mono ?_)
        rintro e z1 ⟨o12, rfl, t12⟩
        have HR12 := hid (o12.blk HR11.out (fun e => by omega))
        have HK12 := hid (o12.blk HK11.out (fun e => by omega))
        have HO12 := hid (NW.ox HO11.out o12 hXw)
        have HX12 := hid (XR.off o12 (fun b hb e => by have := hb.1; omega) _ _ HX11.out)
        obtain ⟨k9, hT12, hk9, hr9⟩ := t12
        have c0 := hT12.c0
        have c1 := hT12.c1
        refine hK.out _ _ trivial (fun _ => ?_)
        clear hK o12
        try simp only [Act.put, zA8, zB8, zC8]
        refine wpAnyH_take (i := 2) (v := .bool false) rfl (by kernel_rfl) (by kernel_rfl) (by kernel_rfl) (fun _ _ _ h => h) (Or.inl ⟨by rfl, by intro w hSw; clear hSw; go_simp⟩) (trivial) ?_
        change wpAnyH _ _ _ _ _ _ _ (Act.put _ (some 56) _) _
        try simp only [Act.put, zA8, zB8, zC8]
        refine wpAnyH_take (i := 3) (v := .bool false) rfl (by kernel_rfl) (by kernel_rfl) (by kernel_rfl) (fun _ _ _ h => h) (Or.inl ⟨by rfl, by intro w hSw; clear hSw; go_simp⟩) (trivial) ?_
        change wpAnyH _ _ _ _ _ _ _ (Act.put _ (some 57) _) _
        try simp only [Act.put, zA8, zB8, zC8]
        refine wpAnyH_take (i := 4) (v := .pointer (some ⟨X, 0, none⟩)) rfl (by kernel_rfl) (by kernel_rfl) (by kernel_rfl) (fun _ _ _ h => h) (Or.inl ⟨by rfl, by intro w hSw; clear hSw; go_simp⟩) (trivial) ?_
        change wpAnyH _ _ _ _ _ _ _ (Act.put _ (some 58) _) _
        try simp only [Act.put, zA8, zB8, zC8]
        refine wpAnyH_take (i := 5) (v := .pointer (some ⟨X, 0, none⟩)) rfl (by kernel_rfl) (by kernel_rfl) (by kernel_rfl) (fun _ _ _ h => h) (Or.inl ⟨by rfl, by intro w hSw; clear hSw; go_simp⟩) (trivial) ?_
        change wpAnyH _ _ _ _ _ _ _ (Act.put _ (some 59) _) _
        try simp only [Act.put, zA8, zB8, zC8]
        refine wpAnyH_take (i := 6) (v := .pointer (some ⟨X, 1, none⟩)) rfl (by kernel_rfl) (by kernel_rfl) (by kernel_rfl) (fun _ _ _ h => h) (Or.inl ⟨by rfl, by intro w hSw; clear hSw; go_simp⟩) (trivial) ?_
        change wpAnyH _ _ _ _ _ _ _ (Act.put _ (some 60) _) _
        try simp only [Act.put, zA8, zB8, zC8]
        refine wpAnyH_take (i := 8) (v := .pointer (some ⟨X, 0, none⟩)) rfl (by kernel_rfl) (by kernel_rfl) (by kernel_rfl) (fun _ _ _ h => h) (Or.inl ⟨by rfl, by intro w hSw; clear hSw; go_simp⟩) (trivial) ?_
        change wpAnyH _ _ _ _ _ _ _ (Act.put _ (some 62) _) _
        try simp only [Act.put, zA8, zB8, zC8]
        refine wpAnyH_take (i := 9) (v := .pointer (some ⟨X, 0, none⟩)) rfl (by kernel_rfl) (by kernel_rfl) (by kernel_rfl) (fun _ _ _ h => h) (Or.inl ⟨by rfl, by intro w hSw; clear hSw; go_simp⟩) (trivial) ?_
        change wpAnyH _ _ _ _ _ _ _ (Act.put _ (some 63) _) _
        try simp only [Act.put, zA8, zB8, zC8]
        refine wpAnyH_take (i := 10) (v := .pointer (some ⟨X, 0, none⟩)) rfl (by kernel_rfl) (by kernel_rfl) (by kernel_rfl) (fun _ _ _ h => h) (Or.inl ⟨by rfl, by intro w hSw; clear hSw; go_simp⟩) (trivial) ?_
        change wpAnyH _ _ _ _ _ _ _ (Act.put _ (some 64) _) _
        try simp only [Act.put, zA8, zB8, zC8]
        refine wpAnyH_ready (rs := [7, 11]) (by kernel_rfl) (by simp) ?_
        refine AllReadyH.cons (o := { dst := some 61, op := .load 3 (.tmp 60), type := _, pos := _, after := _, guard := some (3, false) }) rfl (fun K0 hK => ?_) ?_
        ·go_simp
         refine hK.out _ _ trivial (fun _ => ?_)
         clear hK
         try simp only [Act.put, zA8, zB8, zC8]
         refine wpAnyH_ready (rs := [11]) (by kernel_rfl) (by simp) ?_
         refine AllReadyH.cons (o := { dst := some 65, op := .load 9 (.tmp 64), type := _, pos := _, after := _, guard := some (3, false) }) rfl (fun K0 hK => ?_) AllReadyH.nil
         go_simp
         refine hK.out _ _ trivial (fun _ => ?_)
         clear hK
         try simp only [Act.put, zA8, zB8, zC8]
         refine wpAnyH_take (i := 12) (v := .int .i64 (nu : Int)) rfl (by kernel_rfl) (by kernel_rfl) (by kernel_rfl) (fun _ _ _ h => h) (Or.inl ⟨by rfl, by intro w hSw; clear hSw; go_simp⟩) (trivial) ?_
         change wpAnyH _ _ _ _ _ _ _ (Act.put _ (some 66) _) _
         try simp only [Act.put, zA8, zB8, zC8]
         by_cases hs4 : s4 = []
         ·have HF : Hid (o = (v, 0)) := hid (by rw [HPF.out, ha]; simp only [hs4, if_true])
          have hkn : k9 = nu := by rw [hs4] at hk9; have := HNU.out; simp at hk9; omega
          have hlt9 : ¬ (k9 : Int) < (nu : Int) := by omega
          have hlt8 : decide ((k9 : Int) < (nu : Int)) = false := decide_eq_false hlt9
          clear hs4 hkn ha hk9 hr9
          refine wpAnyH_take (i := 13) (v := .bool false) rfl (by kernel_rfl) (by kernel_rfl) (by kernel_rfl) (fun _ _ _ h => h) (Or.inl ⟨by rfl, by intro w hSw; clear hSw; go_simp⟩) (trivial) ?_
          change wpAnyH _ _ _ _ _ _ _ (Act.put _ (some 67) _) _
          try simp only [Act.put, zA8, zB8, zC8]
          refine wpAnyH_take (i := 14) (v := .bool false) rfl (by kernel_rfl) (by kernel_rfl) (by kernel_rfl) (fun _ _ _ h => h) (Or.inl ⟨by rfl, by intro w hSw; clear hSw; go_simp⟩) (trivial) ?_
          change wpAnyH _ _ _ _ _ _ _ (Act.put _ (some 68) _) _
          try simp only [Act.put, zA8, zB8, zC8]
          refine wpAnyH_done (by kernel_rfl) ?_ _
          have n0 := HK12.out.cell 0
          have n1 := HK12.out.cell 1
          have n2 := HK12.out.cell 2
          have n3 := HK12.out.cell 3
          have n4 := HK12.out.cell 4
          have hres := HR12.out
          go_wp2_with (guard_target =~ Go.wpList _ _ _ ({ dst := none, op := Go.Op.store TNo _ _, type := _, pos := _, after := _, guard := none } :: _) _ _; refine stN5 rfl rfl (all5 rfl rfl rfl rfl rfl) hres ?_)
          intro wz hz oz
          have d0 := hz.cell 0
          have d1 := hz.cell 1
          have d2 := hz.cell 2
          have d3 := hz.cell 3
          have d4 := hz.cell 4
          have HOz := hid (NW.ox HO12.out oz hRw)
          have HXz := hid (XR.mono (T' := fun b => w.heap.size ≤ b ∧ b < wz.heap.size) (fun b hb => ⟨by have := hb.1; omega, by have h1 := hb.2; have h2 := oz.size; have h3 := HK12.out.lt; omega⟩) _ _ (XR.off oz (fun b hb e => by have := hb.1; omega) _ _ HX12.out))
          clear hz oz
          go_wp2
          refine bodyPost_ret (v := .tuple #[.agg #[sV y0, sV y1, .slice yA mA yc, .slice ykA mK ykc, sV y4], .int .i64 0]) ?_ rfl ?_
          ·simp [results, Tryz.results11, go_sem, d0, d1, d2, d3, d4]
          rw [HF.out]
          exact ⟨below_of_off HOz.out, _, rfl, HXz.out⟩
         ·have HF : Hid (o = (zeroX, 70)) := hid (by rw [HPF.out, ha]; simp only [hs4, if_false])
          have hpos : 0 < s4.length := List.length_pos_iff.2 hs4
          have hlt9 : (k9 : Int) < (nu : Int) := by have := HNU.out; omega
          have hlt8 : decide ((k9 : Int) < (nu : Int)) = true := decide_eq_true hlt9
          have hRx := HR12.out
          clear hs4 hpos ha hk9 hr9
          refine wpAnyH_take (i := 13) (v := .bool true) rfl (by kernel_rfl) (by kernel_rfl) (by kernel_rfl) (fun _ _ _ h => h) (Or.inl ⟨by rfl, by intro w hSw; clear hSw; go_simp⟩) (trivial) ?_
          change wpAnyH _ _ _ _ _ _ _ (Act.put _ (some 67) _) _
          try simp only [Act.put, zA8, zB8, zC8]
          refine wpAnyH_take (i := 14) (v := .bool true) rfl (by kernel_rfl) (by kernel_rfl) (by kernel_rfl) (fun _ _ _ h => h) (Or.inl ⟨by rfl, by intro w hSw; clear hSw; go_simp⟩) (trivial) ?_
          change wpAnyH _ _ _ _ _ _ _ (Act.put _ (some 68) _) _
          try simp only [Act.put, zA8, zB8, zC8]
          refine wpAnyH_done (by kernel_rfl) ?_ _
          go_wp2_with (guard_target =~ Go.wpList _ _ _ ({ dst := none, op := Go.Op.store TNo _ _, type := _, pos := _, after := _, guard := none } :: _) _ _; refine stN5 rfl rfl (all5 rfl rfl rfl rfl rfl) hRx ?_)
          intro wz hz oz
          have d0 := hz.cell 0
          have d1 := hz.cell 1
          have d2 := hz.cell 2
          have d3 := hz.cell 3
          have d4 := hz.cell 4
          have HOz := hid (NW.ox HO12.out oz hRw)
          clear hz oz
          go_wp2
          refine bodyPost_ret (v := .tuple #[zNV, .int .i64 70]) ?_ rfl ?_
          ·simp [results, Tryz.results11, go_sem, d0, d1, d2, d3, d4]
          exact PaO.bad HF.out HOz.out
        refine AllReadyH.cons (o := { dst := some 65, op := .load 9 (.tmp 64), type := _, pos := _, after := _, guard := some (3, false) }) rfl (fun K0 hK => ?_) AllReadyH.nil
        go_simp
        refine hK.out _ _ trivial (fun _ => ?_)
        clear hK
        try simp only [Act.put, zA8, zB8, zC8]
        refine wpAnyH_take (i := 12) (v := .int .i64 (nu : Int)) rfl (by kernel_rfl) (by kernel_rfl) (by kernel_rfl) (fun _ _ _ h => h) (Or.inl ⟨by rfl, by intro w hSw; clear hSw; go_simp⟩) (trivial) ?_
        change wpAnyH _ _ _ _ _ _ _ (Act.put _ (some 66) _) _
        try simp only [Act.put, zA8, zB8, zC8]
        refine wpAnyH_ready (rs := [7]) (by kernel_rfl) (by simp) ?_
        refine AllReadyH.cons (o := { dst := some 61, op := .load 3 (.tmp 60), type := _, pos := _, after := _, guard := some (3, false) }) rfl (fun K0 hK => ?_) AllReadyH.nil
        go_simp
        refine hK.out _ _ trivial (fun _ => ?_)
        clear hK
        try simp only [Act.put, zA8, zB8, zC8]
        by_cases hs4 : s4 = []
        ·have HF : Hid (o = (v, 0)) := hid (by rw [HPF.out, ha]; simp only [hs4, if_true])
         have hkn : k9 = nu := by rw [hs4] at hk9; have := HNU.out; simp at hk9; omega
         have hlt9 : ¬ (k9 : Int) < (nu : Int) := by omega
         have hlt8 : decide ((k9 : Int) < (nu : Int)) = false := decide_eq_false hlt9
         clear hs4 hkn ha hk9 hr9
         refine wpAnyH_take (i := 13) (v := .bool false) rfl (by kernel_rfl) (by kernel_rfl) (by kernel_rfl) (fun _ _ _ h => h) (Or.inl ⟨by rfl, by intro w hSw; clear hSw; go_simp⟩) (trivial) ?_
         change wpAnyH _ _ _ _ _ _ _ (Act.put _ (some 67) _) _
         try simp only [Act.put, zA8, zB8, zC8]
         refine wpAnyH_take (i := 14) (v := .bool false) rfl (by kernel_rfl) (by kernel_rfl) (by kernel_rfl) (fun _ _ _ h => h) (Or.inl ⟨by rfl, by intro w hSw; clear hSw; go_simp⟩) (trivial) ?_
         change wpAnyH _ _ _ _ _ _ _ (Act.put _ (some 68) _) _
         try simp only [Act.put, zA8, zB8, zC8]
         refine wpAnyH_done (by kernel_rfl) ?_ _
         have n0 := HK12.out.cell 0
         have n1 := HK12.out.cell 1
         have n2 := HK12.out.cell 2
         have n3 := HK12.out.cell 3
         have n4 := HK12.out.cell 4
         have hres := HR12.out
         go_wp2_with (guard_target =~ Go.wpList _ _ _ ({ dst := none, op := Go.Op.store TNo _ _, type := _, pos := _, after := _, guard := none } :: _) _ _; refine stN5 rfl rfl (all5 rfl rfl rfl rfl rfl) hres ?_)
         intro wz hz oz
         have d0 := hz.cell 0
         have d1 := hz.cell 1
         have d2 := hz.cell 2
         have d3 := hz.cell 3
         have d4 := hz.cell 4
         have HOz := hid (NW.ox HO12.out oz hRw)
         have HXz := hid (XR.mono (T' := fun b => w.heap.size ≤ b ∧ b < wz.heap.size) (fun b hb => ⟨by have := hb.1; omega, by have h1 := hb.2; have h2 := oz.size; have h3 := HK12.out.lt; omega⟩) _ _ (XR.off oz (fun b hb e => by have := hb.1; omega) _ _ HX12.out))
         clear hz oz
         go_wp2
         refine bodyPost_ret (v := .tuple #[.agg #[sV y0, sV y1, .slice yA mA yc, .slice ykA mK ykc, sV y4], .int .i64 0]) ?_ rfl ?_
         ·simp [results, Tryz.results11, go_sem, d0, d1, d2, d3, d4]
         rw [HF.out]
         exact ⟨below_of_off HOz.out, _, rfl, HXz.out⟩
        ·have HF : Hid (o = (zeroX, 70)) := hid (by rw [HPF.out, ha]; simp only [hs4, if_false])
         have hpos : 0 < s4.length := List.length_pos_iff.2 hs4
         have hlt9 : (k9 : Int) < (nu : Int) := by have := HNU.out; omega
         have hlt8 : decide ((k9 : Int) < (nu : Int)) = true := decide_eq_true hlt9
         have hRx := HR12.out
         clear hs4 hpos ha hk9 hr9
         refine wpAnyH_take (i := 13) (v := .bool true) rfl (by kernel_rfl) (by kernel_rfl) (by kernel_rfl) (fun _ _ _ h => h) (Or.inl ⟨by rfl, by intro w hSw; clear hSw; go_simp⟩) (trivial) ?_
         change wpAnyH _ _ _ _ _ _ _ (Act.put _ (some 67) _) _
         try simp only [Act.put, zA8, zB8, zC8]
         refine wpAnyH_take (i := 14) (v := .bool true) rfl (by kernel_rfl) (by kernel_rfl) (by kernel_rfl) (fun _ _ _ h => h) (Or.inl ⟨by rfl, by intro w hSw; clear hSw; go_simp⟩) (trivial) ?_
         change wpAnyH _ _ _ _ _ _ _ (Act.put _ (some 68) _) _
         try simp only [Act.put, zA8, zB8, zC8]
         refine wpAnyH_done (by kernel_rfl) ?_ _
         go_wp2_with (guard_target =~ Go.wpList _ _ _ ({ dst := none, op := Go.Op.store TNo _ _, type := _, pos := _, after := _, guard := none } :: _) _ _; refine stN5 rfl rfl (all5 rfl rfl rfl rfl rfl) hRx ?_)
         intro wz hz oz
         have d0 := hz.cell 0
         have d1 := hz.cell 1
         have d2 := hz.cell 2
         have d3 := hz.cell 3
         have d4 := hz.cell 4
         have HOz := hid (NW.ox HO12.out oz hRw)
         clear hz oz
         go_wp2
         refine bodyPost_ret (v := .tuple #[zNV, .int .i64 70]) ?_ rfl ?_
         ·simp [results, Tryz.results11, go_sem, d0, d1, d2, d3, d4]
         exact PaO.bad HF.out HOz.out
end Go.Proofs.YtklcjimmbkpbdaaGreatDoor
