/-
  The program's clone of a value of JSON: the walk. Conditions: values of modest size.
-/
import Derived.Test.YtchgelfomnbpaaaDoorZ29
namespace Go.Proofs.YtchgelfomnbpaaaDoor
open Go.RowKit
open Go.Lib

section
variable {V : Nat} {k : Int} {tx : Bt} {nv lv : Value} {cs : List Value} {T : Nat → Prop} {ns : List Bt} {vs : List JV} {w w' : World}
theorem MC.pushT {x : Bt} {nv' : Value} (M : MC V k tx nv lv cs T ns vs w) (hP : PushedT V (.int .i64 k) (.string (bs tx)) nv lv nv' (ns ++ [x]) w w') : MC V k tx nv' lv cs T (ns ++ [x]) vs w' := by
  obtain ⟨hb, hn, ho, hat⟩ := hP
  refine ⟨hb, hn, own_off M.vals ho (fun b hb h => ?_), JRs.off ho (fun b hb h => ?_) vs cs M.read, fun b hb => ?_, fun b hb h => ?_⟩
  · rcases h with h | h
    · have := M.lb hb; omega
    · exact M.apart b h hb
  · rcases h with h | h
    · have := M.old b hb; omega
    · exact (M.old b hb).2.2.1 h
  · have h1 := M.old b hb
    have h2 := ho.size
    refine ⟨h1.1, by omega, fun h => ?_, h1.2.2.2⟩
    rcases hat b h with h3 | h3
    · exact h1.2.2.1 h3
    · omega
  · rcases hat b hb with h3 | h3
    · exact M.apart b h3 h
    · have := M.lb h; omega
theorem MC.pushV {v : JV} {x0 x1 x2 x3 lv' : Value} {U : Nat → Prop} (M : MC V k tx nv lv cs T ns vs w) (hU : ∀ b, U b → w.heap.size ≤ b ∧ b < w'.heap.size ∧ lv'.ownBlock ≠ some b) (hv : JR w' U v (.agg #[x0, x1, x2, x3]))
    (hP : Pushed V (.int .i64 k) (.string (bs tx)) nv lv lv' vs.length (cs ++ [x0, x1, x2, x3]) w w') : MC V k tx nv lv' (cs ++ [x0, x1, x2, x3]) (fun b => T b ∨ U b) ns (vs ++ [v]) w' := by
  obtain ⟨hb, hl, ho, hat⟩ := hP
  have hV := M.blk.lt
  refine ⟨hb, own_off M.names ho (fun b hb h => ?_), by rw [List.length_append]; exact hl, JRs.snoc (JR.mono (fun b h => .inr h) v _ hv) vs cs (JRs.mono (fun b h => .inl h) vs cs (JRs.off ho (fun b hb h => ?_) vs cs M.read)), fun b hb => ?_, fun b hb h => ?_⟩
  · rcases h with h | h
    · have := M.nb hb; omega
    · exact M.apart b hb h
  · rcases h with h | h
    · have := M.old b hb; omega
    · exact (M.old b hb).2.2.2 h
  · have h2 := ho.size
    rcases hb with hb | hb
    · have h1 := M.old b hb
      refine ⟨h1.1, by omega, h1.2.2.1, fun h => ?_⟩
      rcases hat b h with h3 | h3
      · exact h1.2.2.2 h3
      · omega
    · have h1 := hU b hb
      exact ⟨by omega, h1.2.1, fun h => by have := M.nb h; omega, h1.2.2⟩
  · rcases hat b h with h3 | h3
    · exact M.apart b hb h3
    · have := M.nb hb; omega
end
theorem pushed_below {F : Nat → Prop} {w0 w w' : World} (h0 : Below w0.heap.size w0 w) (h : Off F w w') (hF : ∀ b, F b → w0.heap.size ≤ b) : Below w0.heap.size w0 w' :=
  ((Off.of_below h0).trans h (fun b hb => .inr (hF b hb))).below (fun _ h => h.elim)
/-- What clone answers. -/
def CloneO (v : JV) (w : World) (e : Ending) (w' : World) : Prop := (∃ x0 x1 x2 x3, e = .returned (.agg #[x0, x1, x2, x3]) ∧ One4 x0 x1 x2 x3 ∧ JR w' (fun b => w.heap.size ≤ b ∧ b < w'.heap.size) v (.agg #[x0, x1, x2, x3])) ∧ Below w.heap.size w w'
def CloneC (N : Nat) : Prop := ∀ (T : Nat → Prop) (v : JV) (x : Value) (w : World), wJ v ≤ N → JR w T v x → Calls Tryd.prog 32 #[x] w (CloneO v w)
/-- Between two names. -/
def C1St (R C : Nat) (k : Int) (t : Bt) (ns : List Bt) (y0 y1 y2 y3 : Value) (w0 wr : World) : Prop := ∃ nv, MC C k t nv (.slice none 0 0) [] (fun _ => False) ns [] wr ∧ JZ R wr ∧ J4 w0.heap.size y0 y1 y2 y3 wr ∧ Below w0.heap.size w0 wr
/-- Between two values. -/
def C2St (R C : Nat) (k : Int) (t : Bt) (ns : List Bt) (vs : List JV) (w0 wr : World) : Prop := ∃ nv lv cs T, MC C k t nv lv cs T ns vs wr ∧ JZ R wr ∧ Below w0.heap.size w0 wr
theorem take_sn7 {α : Type} (l : List α) (j : Nat) (h : j < l.length) : l.take (j + 1) = l.take j ++ [l[j]] := by
  rw [List.take_succ_eq_append_getElem h]
set_option maxRecDepth 100000 in
set_option maxHeartbeats 4000000 in
theorem clone_step {N : Nat} (IH : CloneC N) (hN : N ≤ 999999) {T : Nat → Prop} {k : Int} {t : Bt} {ns : List Bt} {l : List JV} {x : Value} {w : World} (hW : wJ (.mk k t ns l) ≤ N + 1) (hJ : JR w T (.mk k t ns l) x) :
    Calls Tryd.prog 32 #[x] w (CloneO (.mk k t ns l) w) := by
  rw [wJ] at hW
  have hnsl := nsW_len ns
  have hwl := wsJ_len l
  rw [JR] at hJ
  obtain ⟨nA, nc, lA, lc, rfl, hTx, hL⟩ := hJ
  have HTX := Lib.hid hTx
  have HL := Lib.hid hL
  have HIH := Lib.hid IH
  have HWS : Hid (wsJ l ≤ N ∧ nsW ns ≤ 999999 ∧ ns.length ≤ 999999 ∧ l.length ≤ 999999 ∧ t.length ≤ 999999) := Lib.hid ⟨by omega, by omega, by omega, by omega, by omega⟩
  have HCT := Lib.hid (fun W => pclone_any t W (by omega))
  clear hTx hL IH hW hnsl hwl
  obtain ⟨nn, hnn⟩ : ∃ n, ns.length = n := ⟨_, rfl⟩
  obtain ⟨n, hn⟩ : ∃ n, l.length = n := ⟨_, rfl⟩
  rw [hnn, hn]
  have HNN := Lib.hid hnn
  have HN := Lib.hid hn
  have HN9 : Hid (nn ≤ 999999 ∧ n ≤ 999999) := Lib.hid (by have := HWS.out; omega)
  clear hnn hn
  obtain ⟨W1, hW1⟩ : ∃ W, (w.alloc (.cells #[.int .i64 k, .string (bs t), .slice nA nn nc, .slice lA n lc] TJ)).alloc (.cells #[.int .i64 0, .string ⟨#[]⟩, .slice none 0 0, .slice none 0 0] TJ) = W := ⟨_, rfl⟩
  have hbx : J4 w.heap.size (.int .i64 k) (.string (bs t)) (.slice nA nn nc) (.slice lA n lc) W1 := by
    rw [← hW1]
    exact (Off.of_below ((Below.refl _ _).alloc (Nat.le_refl _) _)).blk (Blk.new _ w) (fun h => h)
  have hR : JZ (w.heap.size + 1) W1 := by
    have := Blk.new (.cells #[.int .i64 0, .string ⟨#[]⟩, .slice none 0 0, .slice none 0 0] TJ (0, 0)) (w.alloc (.cells #[.int .i64 k, .string (bs t), .slice nA nn nc, .slice lA n lc] TJ))
    rw [hW1] at this
    unfold JZ J4
    simpa using this
  have hB1 : Below w.heap.size w W1 := by
    rw [← hW1]
    exact ((Below.refl _ _).alloc (Nat.le_refl _) _).alloc (by simp) _
  have hS1 : W1.heap.size = w.heap.size + 2 := by rw [← hW1]; simp
  have HBX := Lib.hid hbx
  have HR := Lib.hid hR
  have HB1 := Lib.hid hB1
  have HS1 := Lib.hid hS1
  clear hbx hR hB1 hS1
  subst hW1
  go_enter Tryd.func32, Tryd.ntmps32
  go_upto_region 1 with fail
  generalize (w.alloc (.cells #[.int .i64 k, .string (bs t), .slice nA nn nc, .slice lA n lc] TJ)).alloc (.cells #[.int .i64 0, .string ⟨#[]⟩, .slice none 0 0, .slice none 0 0] TJ) = W1 at *
  refine regC1 (by kernel_rfl) (by simp) (by rfl) HBX.out HCT.out ?_
  intro C W2 hC hJC b2
  have hs1 := HS1.out
  have hbx2 := HBX.out.below b2
  have HC : Hid (w.heap.size + 1 < C) := Lib.hid (by omega)
  have HSt : Hid (C1St (w.heap.size + 1) C k t [] (.int .i64 k) (.string (bs t)) (.slice nA nn nc) (.slice lA n lc) w W2) := Lib.hid ⟨_, MC.new k hJC, HR.out.below b2, hbx2, HB1.out.trans (b2.mono HB1.out.size)⟩
  have e2 := hbx2.c2
  clear hs1 hbx2 hJC hC b2 HBX HR HB1 HS1
  go_wp2
  clear e2
  have hn9 := HN9.out
  go_loopw [17] (fun i wr => ∃ j : Nat, j ≤ nn ∧ i = .int .i64 j ∧ Hid (C1St (w.heap.size + 1) C k t (ns.take j) (.int .i64 k) (.string (bs t)) (.slice nA nn nc) (.slice lA n lc) w wr)) (fun i _ => nn - (RowKit.intOf i).toNat)
  case atStart => exact ⟨0, Nat.zero_le _, rfl, HSt⟩
  case round =>
    clear HSt
    obtain ⟨j, hj, rfl, HSE⟩ := hrel
    obtain ⟨nv, M, hR, hbx, hB⟩ := HSE.out
    clear HSE
    by_cases hjn : j < nn
    · have hjl : j < ns.length := by rw [HNN.out]; exact hjn
      obtain ⟨b, off, rfl, _, hbw, hc⟩ := HTX.out (by omega)
      have y0 := (hB.cell (p := ⟨b, off + j, none⟩) hbw).trans (hc j hjl)
      have htk := take_sn7 ns j hjl
      obtain ⟨y, hy⟩ : ∃ y, ns[j] = y := ⟨_, rfl⟩
      rw [hy] at y0 htk
      have HYC := Lib.hid (fun W => pclone_any y W (by have := nsW_at ns j hjl; rw [hy] at this; have := HWS.out; omega))
      have HTK := Lib.hid htk
      have HM := Lib.hid M
      have HRR := Lib.hid hR
      have HBX := Lib.hid hbx
      have HB := Lib.hid hB
      clear hc hy M hR hbx hB htk
      go_upto_region 5 with fail
      refine regC5 (ns := ns.take j) (y := y) (by kernel_rfl) (by simp) (by rfl) (by rfl) HM.out.blk HM.out.names (by rw [List.length_take]; omega) HYC.out ?_
      intro y25 nv' W3 hP
      have hPo := hP.2.2.1
      have M3 := HM.out.pushT hP
      have HS3 : Hid (C1St (w.heap.size + 1) C k t (ns.take (j + 1)) (.int .i64 k) (.string (bs t)) (.slice (some ⟨b, off, none⟩) nn nc) (.slice lA n lc) w W3) := Lib.hid (by
        rw [HTK.out]
        have hC := HC.out
        have hF : ∀ b, (b = C ∨ nv.ownBlock = some b) → w.heap.size + 1 < b := fun b hb => by
          rcases hb with hb | hb
          · omega
          · have := HM.out.nb hb; omega
        exact ⟨nv', M3, HRR.out.off hPo (fun h => by have := hF _ h; omega), HBX.out.off hPo (fun h => by have := hF _ h; omega), pushed_below HB.out hPo (fun b hb => by have := hF b hb; omega)⟩)
      clear hP hPo M3 HM HRR HBX HB HTK HYC y0
      go_wp2
      exact ⟨⟨j + 1, by omega, rfl, HS3⟩, by show nn - ((j : Int) + 1).toNat < nn - (j : Int).toNat; omega⟩
    · obtain rfl : j = nn := by omega
      have htk : ns.take j = ns := List.take_of_length_le (by rw [HNN.out]; exact Nat.le_refl _)
      rw [htk] at M
      have e3 := hbx.c3
      have HSt : Hid (C2St (w.heap.size + 1) C k t ns [] w wr) := Lib.hid ⟨_, _, _, _, M, hR, hB⟩
      clear htk M hR hbx hB
      obtain ⟨V1, hV1⟩ : ∃ V, V = wr := ⟨_, rfl⟩
      subst hV1
      go_wp2
      clear e3
      go_loopw [32] (fun i wr => ∃ i2 : Nat, i2 ≤ n ∧ i = .int .i64 i2 ∧ Hid (C2St (w.heap.size + 1) C k t ns (l.take i2) w wr)) (fun i _ => n - (RowKit.intOf i).toNat)
      case atStart => exact ⟨0, Nat.zero_le _, rfl, HSt⟩
      case round =>
        clear HSt
        obtain ⟨i2, hi2, rfl, HSE⟩ := hrel
        obtain ⟨nv2, lv, cs, T2, M, hR, hB⟩ := HSE.out
        clear HSE
        by_cases hin : i2 < n
        · have hjl : i2 < l.length := by rw [HN.out]; exact hin
          obtain ⟨b, off, rfl, _, hbw, hJl⟩ := HL.out (by omega)
          obtain ⟨x0, x1, x2, x3, c0, c1, c2, c3, hJ⟩ := hJl.at i2 hjl
          obtain ⟨k', s', nA', nn', nc', lA', ln', lc', rfl, rfl, rfl, rfl⟩ := jr_form hJ
          have y0 := (hB.cell (p := ⟨b, off + i2 * 4, none⟩) hbw).trans c0
          have y1 := (hB.cell (p := ⟨b, off + i2 * 4 + 1, none⟩) hbw).trans c1
          have y2 := (hB.cell (p := ⟨b, off + i2 * 4 + 2, none⟩) hbw).trans c2
          have y3 := (hB.cell (p := ⟨b, off + i2 * 4 + 3, none⟩) hbw).trans c3
          obtain ⟨W3, hW3⟩ : ∃ W, wr.alloc (.cells #[.int .i64 k', .string s', .slice nA' nn' nc', .slice lA' ln' lc'] TJ) = W := ⟨_, rfl⟩
          have b3 : Below wr.heap.size wr W3 := by rw [← hW3]; exact (Below.refl _ _).alloc (Nat.le_refl _) _
          have hM4 : J4 wr.heap.size (.int .i64 k') (.string s') (.slice nA' nn' nc') (.slice lA' ln' lc') W3 := by rw [← hW3]; exact Blk.new _ wr
          have HM4 := Lib.hid hM4
          have HM := Lib.hid (M.below b3)
          have HMW : Hid (C < wr.heap.size ∧ lv.ownBlock ≠ some wr.heap.size) := Lib.hid ⟨M.blk.lt, fun h => by have := M.lb h; omega⟩
          have HRR := Lib.hid (hR.below b3)
          have HB := Lib.hid (hB.trans (b3.mono hB.size))
          have htk := take_sn7 l i2 hjl
          have HCL := Lib.hid (fun (W : World) (hW : Below W3.heap.size W3 W) => HIH.out T l[i2] _ W (by have := wsJ_at l i2 hjl; have := HWS.out; omega) (((hJ.below hB).below b3).below hW))
          obtain ⟨vj, hvj⟩ : ∃ y, l[i2] = y := ⟨_, rfl⟩
          rw [hvj] at HCL htk
          have HTK := Lib.hid htk
          have HLT : Hid ((l.take i2).length = i2) := Lib.hid (by rw [List.length_take]; omega)
          clear hM4 hJl hJ c0 c1 c2 c3 M hR hB htk hvj b3
          subst hW3
          go_upto_region 10 with fail
          generalize wr.alloc (.cells #[.int .i64 k', .string s', .slice nA' nn' nc', .slice lA' ln' lc'] TJ) = W3 at *
          refine regC10 (M := wr.heap.size) (n := (l.take i2).length) (v := vj) (by kernel_rfl) (by simp) (by rfl) (by rfl) HM.out.blk HM4.out HM.out.vals (by have := HMW.out; omega) HMW.out.2 (by have := HLT.out; omega) HCL.out ?_
          intro z0 z1 z2 z3 y25 lv' W4 U hz1 hU hzj hP
          have hPo := hP.2.2.1
          have M4 := HM.out.pushV hU hzj hP
          have HS4 : Hid (C2St (w.heap.size + 1) C k t ns (l.take (i2 + 1)) w W4) := Lib.hid (by
            rw [HTK.out]
            have hC := HC.out
            have hF : ∀ b, (b = C ∨ lv.ownBlock = some b) → w.heap.size + 1 < b := fun b hb => by
              rcases hb with hb | hb
              · omega
              · have := HM.out.lb hb; omega
            exact ⟨nv2, lv', _, _, M4, HRR.out.off hPo (fun h => by have := hF _ h; omega), pushed_below HB.out hPo (fun b hb => by have := hF b hb; omega)⟩)
          clear hP hPo M4 HM HRR HB HTK HCL HM4 hU hzj hz1
          go_wp2
          exact ⟨⟨i2 + 1, by omega, rfl, HS4⟩, by show n - ((i2 : Int) + 1).toNat < n - (i2 : Int).toNat; omega⟩
        · obtain rfl : i2 = n := by omega
          have htk : l.take i2 = l := List.take_of_length_le (by rw [HN.out]; exact Nat.le_refl _)
          rw [htk] at M
          have hMb := M.blk
          have hone := M.one
          have HM := Lib.hid M
          have HB := Lib.hid hB
          have HC2 := Lib.hid M.blk.lt
          clear htk M hB
          go_wp2_with (first
            | (guard_target =~ Go.wpList _ _ _ ({ dst := _, op := Go.Op.load 28 _, type := _, pos := _, after := _, guard := none } :: _) _ _; refine ld4 rfl hMb ?_)
            | (guard_target =~ Go.wpList _ _ _ ({ dst := none, op := Go.Op.store 28 _ _, type := _, pos := _, after := _, guard := none } :: _) _ _; refine st4 rfl rfl hone hR ?_))
          intro wz hz oz
          have hbz : Below w.heap.size w wz := pushed_below HB.out oz (fun b hb => by omega)
          have HBZ := Lib.hid hbz
          have HJZ : Hid (JR wz (fun b => w.heap.size ≤ b ∧ b < wz.heap.size) (.mk k t ns l) (.agg #[.int .i64 k, .string (bs t), nv2, lv])) := Lib.hid (by
            have hv := HM.out.value (T' := fun b => C < b ∧ b < wr.heap.size) (fun b h1 h2 => ⟨h1, h2⟩)
            have hC := HC.out
            exact JR.mono (fun b hb => ⟨by omega, by have := oz.size; omega⟩) _ _ (JR.off oz (fun b hb e => by omega) _ _ hv))
          have HON := Lib.hid hone
          clear hR oz hMb hone hbz
          go_wp2
          exact bodyPost_ret (by simp [results, Tryd.results32, go_sem, J4.c0 hz, J4.c1 hz, J4.c2 hz, J4.c3 hz]) rfl ⟨⟨_, _, _, _, rfl, HON.out, HJZ.out⟩, HBZ.out⟩
theorem clone_all : ∀ N, N ≤ 1000000 → CloneC N
  | 0, _ => fun T v x w hW _ => by have := wJ_pos v; omega
  | N + 1, hN => fun T v x w hW hJ => by
    obtain ⟨k, t, ns, l⟩ := v
    exact clone_step (clone_all N (by omega)) (by omega) hW hJ
end Go.Proofs.YtchgelfomnbpaaaDoor
