/-
  The walks of package link's apart and Parse. Conditions: texts of at most a million bytes; the library's variables hold what they are laid with.
-/
import Derived.Test.YtlgggibdgfdmhaaGreatDoorKL
namespace Go.Proofs.YtlgggibdgfdmhaaGreatDoor
open Go.RowKit
open Go.Lib

def ApartOut (f : Option Lk) (w : World) (e : Ending) (w' : World) : Prop :=
  (match f with
    | some p => e = .returned (.tuple #[lkV p, .bool true])
    | none => ∃ a h n p q g x y, e = .returned (.tuple #[aggV a h n p q g x y, .bool false])) ∧ Below w.heap.size w w'
theorem ApartOut.no {l : List UInt8} {w w' : World} {a h : ByteArray} {n : Int} {p q f : ByteArray} {x y : Bool} (H : apartL l = none) (hb : Below w.heap.size w w') {r : Nat} (_ : LB r a h n p q f x y w') : ApartOut (apartL l) w (.returned (.tuple #[.agg #[.string a, .string h, .int .i64 n, .string p, .string q, .string f, .bool x, .bool y], .bool false])) w' := by
  rw [H]; exact ⟨⟨a, h, n, p, q, f, x, y, rfl⟩, hb⟩
theorem ApartOut.yes {l : List UInt8} {w w' : World} {p : Lk} (H : apartL l = some p) (hb : Below w.heap.size w w') : ApartOut (apartL l) w (.returned (.tuple #[.agg #[.string (bs p.scheme), .string (bs p.host), .int .i64 p.port, .string (bs p.path), .string (bs p.query), .string (bs p.frag), .bool p.hasQ, .bool p.hasF], .bool true])) w' := by
  rw [H]; exact ⟨rfl, hb⟩
/-- Two links of a call: its result's, and one that it fills. -/
structure St (w0 : World) (a h : ByteArray) (n : Int) (p q f : ByteArray) (x y : Bool) (w : World) : Prop where
  r : LZ w0.heap.size w
  a : LB (w0.heap.size + 1) a h n p q f x y w
  b : Below w0.heap.size w0 w
section
variable {w0 : World} {a h : ByteArray} {n : Int} {p q f : ByteArray} {x y : Bool} {w w' : World}
theorem St.call (H : St w0 a h n p q f x y w) (hb : Below w.heap.size w w') : St w0 a h n p q f x y w' :=
  ⟨LB.below H.r hb, LB.below H.a hb, H.b.trans (hb.mono H.b.size)⟩
theorem St.up (H : St w0 a h n p q f x y w) {cs : Array Value} {a' h' : ByteArray} {n' : Int} {p' q' f' : ByteArray} {x' y' : Bool} (hb : Blk (w0.heap.size + 1) (.cells cs 24 (0, 0)) w') (g : w.grownBy w' (some (w0.heap.size + 1))) (e : cs = lcs a' h' n' p' q' f' x' y') : St w0 a' h' n' p' q' f' x' y' w' :=
  ⟨LB.grown H.r g (by simp), by subst e; exact hb, H.b.grown g H.b.size (fun k hk => by injection hk with hk; omega)⟩
theorem St.env (H : St w0 a h n p q f x y w) (hE : Env w0) : Env w := hE.below H.b
theorem St.out (H : St w0 a h n p q f x y w) (g : w.grownBy w' (some w0.heap.size)) : Below w0.heap.size w0 w' :=
  H.b.grown g H.b.size (fun k hk => by injection hk with hk; omega)
theorem St.drew (H : St w0 a h n p q f x y w) : St w0 a h n p q f x y w.drew := ⟨H.r, H.a, H.b.trans ⟨rfl, rfl, rfl, Nat.le_refl _, fun _ _ => rfl⟩⟩
end
theorem two_blocks (w w1 : World) (b1 : Below ((w.alloc (.cells #[.string ⟨#[]⟩, .string ⟨#[]⟩, .int .i64 0, .string ⟨#[]⟩, .string ⟨#[]⟩, .string ⟨#[]⟩, .bool false, .bool false] 24)).alloc (.cells #[.string ⟨#[]⟩, .string ⟨#[]⟩, .int .i64 0, .string ⟨#[]⟩, .string ⟨#[]⟩, .string ⟨#[]⟩, .bool false, .bool false] 24)).heap.size ((w.alloc (.cells #[.string ⟨#[]⟩, .string ⟨#[]⟩, .int .i64 0, .string ⟨#[]⟩, .string ⟨#[]⟩, .string ⟨#[]⟩, .bool false, .bool false] 24)).alloc (.cells #[.string ⟨#[]⟩, .string ⟨#[]⟩, .int .i64 0, .string ⟨#[]⟩, .string ⟨#[]⟩, .string ⟨#[]⟩, .bool false, .bool false] 24)) w1) :
    St w ⟨#[]⟩ ⟨#[]⟩ 0 ⟨#[]⟩ ⟨#[]⟩ ⟨#[]⟩ false false w1 := by
  have h1 : LZ w.heap.size (w.alloc (.cells #[.string ⟨#[]⟩, .string ⟨#[]⟩, .int .i64 0, .string ⟨#[]⟩, .string ⟨#[]⟩, .string ⟨#[]⟩, .bool false, .bool false] 24)) := Blk.new _ w
  have h2 : LZ (w.alloc (.cells #[.string ⟨#[]⟩, .string ⟨#[]⟩, .int .i64 0, .string ⟨#[]⟩, .string ⟨#[]⟩, .string ⟨#[]⟩, .bool false, .bool false] 24)).heap.size ((w.alloc (.cells #[.string ⟨#[]⟩, .string ⟨#[]⟩, .int .i64 0, .string ⟨#[]⟩, .string ⟨#[]⟩, .string ⟨#[]⟩, .bool false, .bool false] 24)).alloc (.cells #[.string ⟨#[]⟩, .string ⟨#[]⟩, .int .i64 0, .string ⟨#[]⟩, .string ⟨#[]⟩, .string ⟨#[]⟩, .bool false, .bool false] 24)) := Blk.new _ _
  have e : (w.alloc (.cells #[.string ⟨#[]⟩, .string ⟨#[]⟩, .int .i64 0, .string ⟨#[]⟩, .string ⟨#[]⟩, .string ⟨#[]⟩, .bool false, .bool false] 24)).heap.size = w.heap.size + 1 := by simp
  rw [e] at h2
  refine ⟨LB.below (Blk.alloc h1 _) b1, LB.below h2 b1, ?_⟩
  exact ((((Below.refl _ _).alloc (Nat.le_refl _) _).alloc (by simp) _).trans (b1.mono (by simp; omega)))
theorem two_alloc (w : World) : Below w.heap.size w ((w.alloc (.cells #[.string ⟨#[]⟩, .string ⟨#[]⟩, .int .i64 0, .string ⟨#[]⟩, .string ⟨#[]⟩, .string ⟨#[]⟩, .bool false, .bool false] 24)).alloc (.cells #[.string ⟨#[]⟩, .string ⟨#[]⟩, .int .i64 0, .string ⟨#[]⟩, .string ⟨#[]⟩, .string ⟨#[]⟩, .bool false, .bool false] 24)) :=
  ((Below.refl _ _).alloc (Nat.le_refl _) _).alloc (by simp) _
set_option maxRecDepth 100000 in
set_option maxHeartbeats 4000000 in
theorem apart_any (s : ByteArray) (w : World) (hE : Env w) (hs : s.size ≤ 1000000) : Calls Tryz.prog 22 #[.string s] w (ApartOut (apartL s.data.toList) w) := by
  have hc := cut_any s ⟨#[58, 47, 47]⟩ _ (hE.below (two_alloc w)) hs
  unfold CutOut at hc
  rw [show (⟨#[58, 47, 47]⟩ : ByteArray).data.toList = [58, 47, 47] from rfl] at hc
  have HAP := Lib.hid (show apartL s.data.toList = if (cut s.data.toList [58, 47, 47]).2.2 && schB (cut s.data.toList [58, 47, 47]).1 then behind (cut s.data.toList [58, 47, 47]).1 (cut s.data.toList [58, 47, 47]).2.1 else none from rfl)
  have hlen : (cut s.data.toList [58, 47, 47]).1.length ≤ s.size ∧ (cut s.data.toList [58, 47, 47]).2.1.length ≤ s.size := by
    rw [size_list]; unfold cut; split <;> simp <;> omega
  generalize (cut s.data.toList [58, 47, 47]).1 = sch at *
  generalize (cut s.data.toList [58, 47, 47]).2.1 = rst at *
  generalize (cut s.data.toList [58, 47, 47]).2.2 = ok at *
  obtain ⟨hl1, hl2⟩ := hlen
  go_enter Tryz.func22, Tryz.ntmps22
  go_wp2_with fail
  refine hc.mono ?_
  clear hc
  rintro e w1 ⟨rfl, b1⟩
  have S1 := two_blocks w w1 b1
  clear b1
  go_wp2_with (guard_target =~ Go.wpList _ _ _ ({ dst := none, op := Go.Op.store _ _ _, type := _, pos := _, after := _, guard := none } :: _) _ _; refine st1 (b := w.heap.size + 1) (k := 0) (v := .string (bs sch)) rfl rfl S1.a (by show _ < 8; decide) rfl Tryz.sizeOf9 ?_)
  intro wS2 hbS2 gS2
  have S2 : St w (bs sch) ⟨#[]⟩ 0 ⟨#[]⟩ ⟨#[]⟩ ⟨#[]⟩ false false wS2 := S1.up hbS2 gS2 (by simp [lcs])
  clear hbS2 gS2 S1
  cases ok with
  | false =>
    have HN := Lib.hid (show apartL s.data.toList = none by rw [HAP.out]; rfl)
    go_wp2_with (first | (guard_target =~ Go.wpList _ _ _ ({ dst := _, op := Go.Op.load 24 _, type := _, pos := _, after := _, guard := none } :: _) _ _; refine ld24 rfl S2.a ?_) | (guard_target =~ Go.wpList _ _ _ ({ dst := none, op := Go.Op.store 24 _ _, type := _, pos := _, after := _, guard := none } :: _) _ _; refine st24 rfl rfl S2.r ?_))
    intro wz hz gz

    go_wp2
    exact bodyPost_ret (by simp [results, Tryz.results22, go_sem, hz.c0, hz.c1, hz.c2, hz.c3, hz.c4, hz.c5, hz.c6, hz.c7]) rfl (ApartOut.no HN.out (S2.out gz) hz)
  | true =>
    have hsc := isScheme_any (bs sch) wS2 (by rw [bs_size]; omega)
    rw [bs_list] at hsc
    have c0 := S2.a.c0
    cases hsb : schB sch with
    | false =>
      rw [hsb] at hsc
      have HN := Lib.hid (show apartL s.data.toList = none by rw [HAP.out, hsb]; rfl)
      clear hsb
      go_wp2_with fail
      refine hsc.mono ?_
      clear hsc c0
      rintro e w3 ⟨rfl, b3⟩
      have S3 := S2.call b3
      clear S2 b3
      go_wp2_with (first | (guard_target =~ Go.wpList _ _ _ ({ dst := _, op := Go.Op.load 24 _, type := _, pos := _, after := _, guard := none } :: _) _ _; refine ld24 rfl S3.a ?_) | (guard_target =~ Go.wpList _ _ _ ({ dst := none, op := Go.Op.store 24 _ _, type := _, pos := _, after := _, guard := none } :: _) _ _; refine st24 rfl rfl S3.r ?_))
      intro wz hz gz

      go_wp2
      exact bodyPost_ret (by simp [results, Tryz.results22, go_sem, hz.c0, hz.c1, hz.c2, hz.c3, hz.c4, hz.c5, hz.c6, hz.c7]) rfl (ApartOut.no HN.out (S3.out gz) hz)
    | true =>
      rw [hsb] at hsc
      have HB := Lib.hid (show apartL s.data.toList = behind sch rst by rw [HAP.out, hsb]; rfl)
      clear hsb HAP
      go_wp2_with fail
      refine hsc.mono ?_
      clear hsc c0
      rintro e w3 ⟨rfl, b3⟩
      have S3 := S2.call b3
      clear S2 b3
      have hfh := frontHost (bs rst) w3 (by rw [bs_size]; omega)
      rw [bs_list] at hfh
      unfold FrontOut at hfh
      have HBH := Lib.hid (show behind sch rst = if (rst.takeWhile hostB).length < 1 ∨ 253 < (rst.takeWhile hostB).length then none
        else match portCut (rst.drop (rst.takeWhile hostB).length) with
          | none => none
          | some (n, r) => if tailOk r then restCut sch (rst.takeWhile hostB) n r else none from rfl)
      have hh1 : (rst.takeWhile hostB).length ≤ rst.length := (List.takeWhile_prefix _).length_le
      have hh2 : (rst.drop (rst.takeWhile hostB).length).length ≤ rst.length := by rw [List.length_drop]; omega
      generalize rst.drop (rst.takeWhile hostB).length = rr at *
      generalize rst.takeWhile hostB = hh at *
      go_wp2_with fail
      refine hfh.mono ?_
      clear hfh
      rintro e w4 ⟨rfl, b4⟩
      have S4 := S3.call b4
      clear S3 b4
      go_wp2_with (guard_target =~ Go.wpList _ _ _ ({ dst := none, op := Go.Op.store _ _ _, type := _, pos := _, after := _, guard := none } :: _) _ _; refine st1 (b := w.heap.size + 1) (k := 1) (v := .string (bs hh)) rfl rfl S4.a (by show _ < 8; decide) rfl Tryz.sizeOf9 ?_)
      intro wS5 hbS5 gS5
      have S5 : St w (bs sch) (bs hh) 0 ⟨#[]⟩ ⟨#[]⟩ ⟨#[]⟩ false false wS5 := S4.up hbS5 gS5 (by simp [lcs])
      clear hbS5 gS5 S4
      have c1 := S5.a.c1
      have hz : (bs hh).size = hh.length := bs_size hh
      have HZ := Lib.hid hz
      by_cases q1 : hh.length < 1
      · have HN := Lib.hid (show apartL s.data.toList = none by rw [HB.out, HBH.out, if_pos (.inl q1)])
        have q1' : (bs hh).size < 1 := by omega
        clear hz
        go_wp2_with (first | (guard_target =~ Go.wpList _ _ _ ({ dst := _, op := Go.Op.load 24 _, type := _, pos := _, after := _, guard := none } :: _) _ _; refine ld24 rfl S5.a ?_) | (guard_target =~ Go.wpList _ _ _ ({ dst := none, op := Go.Op.store 24 _ _, type := _, pos := _, after := _, guard := none } :: _) _ _; refine st24 rfl rfl S5.r ?_))
        intro wz hz gz

        go_wp2
        exact bodyPost_ret (by simp [results, Tryz.results22, go_sem, hz.c0, hz.c1, hz.c2, hz.c3, hz.c4, hz.c5, hz.c6, hz.c7]) rfl (ApartOut.no HN.out (S5.out gz) hz)
      by_cases q2 : 253 < hh.length
      · have HN := Lib.hid (show apartL s.data.toList = none by rw [HB.out, HBH.out, if_pos (.inr q2)])
        have q1' : 1 ≤ (bs hh).size := by omega
        have q2' : 253 < (bs hh).size := by omega
        clear hz
        go_wp2_with (first | (guard_target =~ Go.wpList _ _ _ ({ dst := _, op := Go.Op.load 24 _, type := _, pos := _, after := _, guard := none } :: _) _ _; refine ld24 rfl S5.a ?_) | (guard_target =~ Go.wpList _ _ _ ({ dst := none, op := Go.Op.store 24 _ _, type := _, pos := _, after := _, guard := none } :: _) _ _; refine st24 rfl rfl S5.r ?_))
        intro wz hz gz

        go_wp2
        exact bodyPost_ret (by simp [results, Tryz.results22, go_sem, hz.c0, hz.c1, hz.c2, hz.c3, hz.c4, hz.c5, hz.c6, hz.c7]) rfl (ApartOut.no HN.out (S5.out gz) hz)
      have HB2 := Lib.hid (show apartL s.data.toList = match portCut rr with
          | none => none
          | some (n, r) => if tailOk r then restCut sch hh n r else none by rw [HB.out, HBH.out, if_neg (by omega)])
      have q1' : 1 ≤ (bs hh).size := by omega
      have q2' : (bs hh).size ≤ 253 := by omega
      clear hz HB HBH
      have hcp := cutPort_any (bs rr) wS5 (S5.env hE) (by rw [bs_size]; omega)
      rw [bs_list] at hcp
      unfold PortOut at hcp
      have HPL := Lib.hid (fun n r (h : portCut rr = some (n, r)) => portCut_some h)
      generalize portCut rr = pc at *
      cases pc with
      | none =>
        have HN := Lib.hid (show apartL s.data.toList = none by rw [HB2.out])
        simp only at hcp
        go_wp2_with fail
        refine hcp.mono ?_
        clear hcp c1
        rintro e w6 ⟨rfl, b6⟩
        have S6 := S5.call b6
        clear S5 b6
        go_wp2_with (guard_target =~ Go.wpList _ _ _ ({ dst := none, op := Go.Op.store _ _ _, type := _, pos := _, after := _, guard := none } :: _) _ _; refine st1 (b := w.heap.size + 1) (k := 2) (v := .int .i64 0) rfl rfl S6.a (by show _ < 8; decide) rfl Tryz.sizeOf3 ?_)
        intro wS7 hbS7 gS7
        have S7 : St w (bs sch) (bs hh) 0 ⟨#[]⟩ ⟨#[]⟩ ⟨#[]⟩ false false wS7 := S6.up hbS7 gS7 (by simp [lcs])
        clear hbS7 gS7 S6
        go_wp2_with (first | (guard_target =~ Go.wpList _ _ _ ({ dst := _, op := Go.Op.load 24 _, type := _, pos := _, after := _, guard := none } :: _) _ _; refine ld24 rfl S7.a ?_) | (guard_target =~ Go.wpList _ _ _ ({ dst := none, op := Go.Op.store 24 _ _, type := _, pos := _, after := _, guard := none } :: _) _ _; refine st24 rfl rfl S7.r ?_))
        intro wz hz gz

        go_wp2
        exact bodyPost_ret (by simp [results, Tryz.results22, go_sem, hz.c0, hz.c1, hz.c2, hz.c3, hz.c4, hz.c5, hz.c6, hz.c7]) rfl (ApartOut.no HN.out (S7.out gz) hz)
      | some pr =>
        obtain ⟨pn, pr⟩ := pr
        obtain ⟨hpl, hpn, _⟩ := HPL.out pn pr rfl
        have hprl : pr.length ≤ rr.length := by rw [hpl, List.length_append]; omega
        clear hpl HPL
        simp only at hcp
        have HB3 := Lib.hid (show apartL s.data.toList = if tailOk pr then restCut sch hh pn pr else none by rw [HB2.out])
        clear HB2
        go_wp2_with fail
        refine hcp.mono ?_
        clear hcp c1
        rintro e w6 ⟨rfl, b6⟩
        have S6 := S5.call b6
        clear S5 b6
        go_wp2_with (guard_target =~ Go.wpList _ _ _ ({ dst := none, op := Go.Op.store _ _ _, type := _, pos := _, after := _, guard := none } :: _) _ _; refine st1 (b := w.heap.size + 1) (k := 2) (v := .int .i64 pn) rfl rfl S6.a (by show _ < 8; decide) rfl Tryz.sizeOf3 ?_)
        intro wS7 hbS7 gS7
        have S7 : St w (bs sch) (bs hh) pn ⟨#[]⟩ ⟨#[]⟩ ⟨#[]⟩ false false wS7 := S6.up hbS7 gS7 (by simp [lcs])
        clear hbS7 gS7 S6
        have hit := isTail_any (bs pr) wS7 (by rw [bs_size]; omega)
        rw [bs_list] at hit
        cases htl : tailOk pr with
        | false =>
          rw [htl] at hit
          have HN := Lib.hid (show apartL s.data.toList = none by rw [HB3.out, htl]; rfl)
          clear htl
          go_wp2_with fail
          refine hit.mono ?_
          clear hit
          rintro e w8 ⟨rfl, rfl⟩
          go_wp2_with (first | (guard_target =~ Go.wpList _ _ _ ({ dst := _, op := Go.Op.load 24 _, type := _, pos := _, after := _, guard := none } :: _) _ _; refine ld24 rfl S7.a ?_) | (guard_target =~ Go.wpList _ _ _ ({ dst := none, op := Go.Op.store 24 _ _, type := _, pos := _, after := _, guard := none } :: _) _ _; refine st24 rfl rfl S7.r ?_))
          intro wz hz gz

          go_wp2
          exact bodyPost_ret (by simp [results, Tryz.results22, go_sem, hz.c0, hz.c1, hz.c2, hz.c3, hz.c4, hz.c5, hz.c6, hz.c7]) rfl (ApartOut.no HN.out (S7.out gz) hz)
        | true =>
          rw [htl] at hit
          have HB4 := Lib.hid (show apartL s.data.toList = restCut sch hh pn pr by rw [HB3.out, htl]; rfl)
          clear htl HB3
          go_wp2_with fail
          refine hit.mono ?_
          clear hit
          rintro e w8 ⟨rfl, rfl⟩
          have hc5 := cut_any (bs pr) ⟨#[35]⟩ wS7 (S7.env hE) (by rw [bs_size]; omega)
          unfold CutOut at hc5
          rw [bs_list, show (⟨#[35]⟩ : ByteArray).data.toList = [35] from rfl] at hc5
          have HRC := Lib.hid (show restCut sch hh pn pr = if pathB (cut (cut pr [35]).1 [63]).1 && !(cut pr [35]).2.1.contains 35 then
            some ⟨sch, hh, pn, (cut (cut pr [35]).1 [63]).1, (cut (cut pr [35]).1 [63]).2.1, (cut pr [35]).2.1, (cut (cut pr [35]).1 [63]).2.2, (cut pr [35]).2.2⟩ else none from rfl)
          have hlen5 : (cut pr [35]).1.length ≤ pr.length ∧ (cut pr [35]).2.1.length ≤ pr.length := by
            unfold cut; split <;> simp <;> omega
          generalize (cut pr [35]).1 = fq at *
          generalize (cut pr [35]).2.1 = fr at *
          generalize (cut pr [35]).2.2 = hf at *
          obtain ⟨hl5, hl6⟩ := hlen5
          go_wp2_with fail
          refine hc5.mono ?_
          clear hc5
          rintro e w9 ⟨rfl, b9⟩
          have S9 := S7.call b9
          clear S7 b9
          go_wp2_with (guard_target =~ Go.wpList _ _ _ ({ dst := none, op := Go.Op.store _ _ _, type := _, pos := _, after := _, guard := none } :: _) _ _; refine st1 (b := w.heap.size + 1) (k := 5) (v := .string (bs fr)) rfl rfl S9.a (by show _ < 8; decide) rfl Tryz.sizeOf9 ?_)
          intro wSa hbSa gSa
          have Sa : St w (bs sch) (bs hh) pn ⟨#[]⟩ ⟨#[]⟩ (bs fr) false false wSa := S9.up hbSa gSa (by simp [lcs])
          clear hbSa gSa S9
          go_wp2_with (guard_target =~ Go.wpList _ _ _ ({ dst := none, op := Go.Op.store _ _ _, type := _, pos := _, after := _, guard := none } :: _) _ _; refine st1 (b := w.heap.size + 1) (k := 7) (v := .bool hf) rfl rfl Sa.a (by show _ < 8; decide) rfl Tryz.sizeOf4 ?_)
          intro wSb hbSb gSb
          have Sb : St w (bs sch) (bs hh) pn ⟨#[]⟩ ⟨#[]⟩ (bs fr) false hf wSb := Sa.up hbSb gSb (by simp [lcs])
          clear hbSb gSb Sa
          have hc6 := cut_any (bs fq) ⟨#[63]⟩ wSb (Sb.env hE) (by rw [bs_size]; omega)
          unfold CutOut at hc6
          rw [bs_list, show (⟨#[63]⟩ : ByteArray).data.toList = [63] from rfl] at hc6
          have hlen6 : (cut fq [63]).1.length ≤ fq.length ∧ (cut fq [63]).2.1.length ≤ fq.length := by
            unfold cut; split <;> simp <;> omega
          generalize (cut fq [63]).1 = pa at *
          generalize (cut fq [63]).2.1 = qu at *
          generalize (cut fq [63]).2.2 = hq at *
          obtain ⟨hl7, hl8⟩ := hlen6
          go_wp2_with fail
          refine hc6.mono ?_
          clear hc6
          rintro e wc ⟨rfl, bc⟩
          have Sc := Sb.call bc
          clear Sb bc
          go_wp2_with (guard_target =~ Go.wpList _ _ _ ({ dst := none, op := Go.Op.store _ _ _, type := _, pos := _, after := _, guard := none } :: _) _ _; refine st1 (b := w.heap.size + 1) (k := 3) (v := .string (bs pa)) rfl rfl Sc.a (by show _ < 8; decide) rfl Tryz.sizeOf9 ?_)
          intro wSd hbSd gSd
          have Sd : St w (bs sch) (bs hh) pn (bs pa) ⟨#[]⟩ (bs fr) false hf wSd := Sc.up hbSd gSd (by simp [lcs])
          clear hbSd gSd Sc
          go_wp2_with (guard_target =~ Go.wpList _ _ _ ({ dst := none, op := Go.Op.store _ _ _, type := _, pos := _, after := _, guard := none } :: _) _ _; refine st1 (b := w.heap.size + 1) (k := 4) (v := .string (bs qu)) rfl rfl Sd.a (by show _ < 8; decide) rfl Tryz.sizeOf9 ?_)
          intro wSe hbSe gSe
          have Se : St w (bs sch) (bs hh) pn (bs pa) (bs qu) (bs fr) false hf wSe := Sd.up hbSe gSe (by simp [lcs])
          clear hbSe gSe Sd
          go_wp2_with (guard_target =~ Go.wpList _ _ _ ({ dst := none, op := Go.Op.store _ _ _, type := _, pos := _, after := _, guard := none } :: _) _ _; refine st1 (b := w.heap.size + 1) (k := 6) (v := .bool hq) rfl rfl Se.a (by show _ < 8; decide) rfl Tryz.sizeOf4 ?_)
          intro wSf hbSf gSf
          have Sf : St w (bs sch) (bs hh) pn (bs pa) (bs qu) (bs fr) hq hf wSf := Se.up hbSf gSf (by simp [lcs])
          clear hbSf gSf Se
          have hip := fun W => isPath_any (bs pa) W (by rw [bs_size]; omega)
          have hco := fun W hW => contains_any (bs fr) 35 W hW (by rw [bs_size]; omega)
          rw [bs_list] at hip
          rw [bs_list] at hco
          have Sg := Sf.drew
          have hAd := Sg.a
          have hRd := Sg.r
          have gz := grown_sets w.heap.size [.string (bs sch), .string (bs hh), .int .i64 pn, .string (bs pa), .string (bs qu), .string (bs fr), .bool hq, .bool hf] 0 wSf.drew
          have hz := LB.stored hRd (bs sch) (bs hh) pn (bs pa) (bs qu) (bs fr) hq hf
          have hA8 := LB.grown hAd gz (by simp)
          have BZ := Sg.out gz
          have hEf := Sg.env hE
          clear gz Sf Sg
          cases hpb : pathB pa with
          | false =>
            rw [hpb] at hip
            have HN := Lib.hid (show apartL s.data.toList = none by rw [HB4.out, HRC.out, hpb]; rfl)
            clear hpb hco
            go_wp2_with fail
            refine wp_region_held_drew (S := fun w' => LB (w.heap.size + 1) (bs sch) (bs hh) pn (bs pa) (bs qu) (bs fr) hq hf w') (by kernel_rfl) hAd (fun hHeld => ?_)
            refine wpAnyH_take (i := 0) (v := .agg #[.string (bs sch), .string (bs hh), .int .i64 pn, .string (bs pa), .string (bs qu), .string (bs fr), .bool hq, .bool hf]) rfl (by kernel_rfl) (by kernel_rfl) (by kernel_rfl) (fun _ _ _ h => h) (yieldsIf_load_mid (by rfl) _ _ rfl (w.heap.size + 1) 0 rfl [.string (bs sch), .string (bs hh), .int .i64 pn, .string (bs pa), .string (bs qu), .string (bs fr), .bool hq, .bool hf] _ (fun _ h => LB.range h) Tryz.underlying24 rfl (by kernel_rfl)) (by assumption) ?_
            change wpAnyH _ _ _ _ _ _ _ (Act.put _ (some 71) _) _
            simp only [Act.put, List.setIfInBounds_toArray, List.set_cons_zero, List.set_cons_succ]
            refine wpAnyH_take (i := 1) (v := ?v1) rfl (by kernel_rfl) (by kernel_rfl) (by kernel_rfl) (fun _ _ _ h => h) (Or.inl ⟨by rfl, ?y1⟩) (by assumption) ?r1
            case y1 => (intro W hSw; go_simp <;> with_reducible rfl)
            change wpAnyH _ _ _ _ _ _ _ (Act.put _ (some 72) _) _
            simp only [Act.put, List.setIfInBounds_toArray, List.set_cons_zero, List.set_cons_succ]
            refine wpAnyH_take (i := 2) (v := ?v2) rfl (by kernel_rfl) (by kernel_rfl) (by kernel_rfl) (fun _ _ _ h => h) (Or.inl ⟨by rfl, ?y2⟩) (by assumption) ?r2
            case y2 => (intro W hSw; have hc := LB.c3 hSw; go_simp <;> with_reducible rfl)
            change wpAnyH _ _ _ _ _ _ _ (Act.put _ (some 73) _) _
            simp only [Act.put, List.setIfInBounds_toArray, List.set_cons_zero, List.set_cons_succ]
            refine wpAnyH_ready (rs := [3]) (by kernel_rfl) (by simp) ?_
            refine AllReadyH.cons rfl (fun K hK => ?_) AllReadyH.nil
            go_simp
            refine (hip _).mono ?_
            rintro e w2 ⟨rfl, rfl⟩
            refine hK.out _ _ hAd (fun hH3 => ?_)
            clear hK K
            refine wpAnyH_take (i := 4) (v := ?v3) rfl (by kernel_rfl) (by kernel_rfl) (by kernel_rfl) (fun _ _ _ h => h) (Or.inl ⟨by rfl, ?y3⟩) (by assumption) ?r3
            case y3 => (intro W hSw; go_simp <;> with_reducible rfl)
            change wpAnyH _ _ _ _ _ _ _ (Act.put _ (some 75) _) _
            simp only [Act.put, List.setIfInBounds_toArray, List.set_cons_zero, List.set_cons_succ]
            refine wpAnyH_take (i := 5) (v := undef) rfl (by kernel_rfl) (by kernel_rfl) (by kernel_rfl) (fun _ _ _ h => h) (Or.inr ⟨by rfl, rfl⟩) (by assumption) ?_
            change wpAnyH _ _ _ _ _ _ _ (Act.put _ (some 76) _) _
            simp only [Act.put, List.setIfInBounds_toArray, List.set_cons_zero, List.set_cons_succ]
            refine wpAnyH_take (i := 6) (v := undef) rfl (by kernel_rfl) (by kernel_rfl) (by kernel_rfl) (fun _ _ _ h => h) (Or.inr ⟨by rfl, rfl⟩) (by assumption) ?_
            change wpAnyH _ _ _ _ _ _ _ (Act.put _ (some 77) _) _
            simp only [Act.put, List.setIfInBounds_toArray, List.set_cons_zero, List.set_cons_succ]
            refine wpAnyH_take (i := 7) (v := undef) rfl (by kernel_rfl) (by kernel_rfl) (by kernel_rfl) (fun _ _ _ h => h) (Or.inr ⟨by rfl, rfl⟩) (by assumption) ?_
            change wpAnyH _ _ _ _ _ _ _ (Act.put _ (some 78) _) _
            simp only [Act.put, List.setIfInBounds_toArray, List.set_cons_zero, List.set_cons_succ]
            refine wpAnyH_take (i := 8) (v := undef) rfl (by kernel_rfl) (by kernel_rfl) (by kernel_rfl) (fun _ _ _ h => h) (Or.inr ⟨by rfl, rfl⟩) (by assumption) ?_
            change wpAnyH _ _ _ _ _ _ _ (Act.put _ (some 79) _) _
            simp only [Act.put, List.setIfInBounds_toArray, List.set_cons_zero, List.set_cons_succ]
            refine wpAnyH_take (i := 9) (v := ?v4) rfl (by kernel_rfl) (by kernel_rfl) (by kernel_rfl) (fun _ _ _ h => h) (Or.inl ⟨by rfl, ?y4⟩) (by assumption) ?r4
            case y4 => (intro W hSw; go_simp <;> with_reducible rfl)
            change wpAnyH _ _ _ _ _ _ _ (Act.put _ (some 80) _) _
            simp only [Act.put, List.setIfInBounds_toArray, List.set_cons_zero, List.set_cons_succ]
            refine wpAnyH_ready (rs := [10]) (by kernel_rfl) (by simp) ?_
            refine AllReadyH.cons rfl (fun K hK => ?_) AllReadyH.nil
            refine wp_store_mid _ _ _ rfl w.heap.size 0 #[.string (bs sch), .string (bs hh), .int .i64 pn, .string (bs pa), .string (bs qu), .string (bs fr), .bool hq, .bool hf] rfl rfl (LB.there hRd) (by kernel_rfl) (one8 _ _ _ _ _ _ _ _) ?_
            refine hK.out _ _ hA8 (fun hHz => ?_)
            clear hK K
            refine wpAnyH_take (i := 11) (v := ?v5) rfl (by kernel_rfl) (by kernel_rfl) (by kernel_rfl) (fun _ _ _ h => h) (Or.inl ⟨by rfl, ?y5⟩) (by assumption) ?r5
            case y5 => (intro W hSw; go_simp <;> with_reducible rfl)
            change wpAnyH _ _ _ _ _ _ _ (Act.put _ (some 3) _) _
            simp only [Act.put, List.setIfInBounds_toArray]
            refine wpAnyH_done (by kernel_rfl) ?_ _
            go_wp2
            exact bodyPost_ret (by simp [results, Tryz.results22, go_sem, LB.c0 hz, LB.c1 hz, LB.c2 hz, LB.c3 hz, LB.c4 hz, LB.c5 hz, LB.c6 hz, LB.c7 hz]) rfl (ApartOut.no HN.out BZ hz)
          | true =>
            rw [hpb] at hip
            have hco := hco _ hEf
            cases hcb : fr.contains 35 with
            | true =>
              rw [hcb] at hco
              have HN := Lib.hid (show apartL s.data.toList = none by rw [HB4.out, HRC.out, hpb, hcb]; rfl)
              clear hpb hcb
              go_wp2_with fail
              refine wp_region_held_drew (S := fun w' => LB (w.heap.size + 1) (bs sch) (bs hh) pn (bs pa) (bs qu) (bs fr) hq hf w') (by kernel_rfl) hAd (fun hHeld => ?_)
              refine wpAnyH_take (i := 0) (v := .agg #[.string (bs sch), .string (bs hh), .int .i64 pn, .string (bs pa), .string (bs qu), .string (bs fr), .bool hq, .bool hf]) rfl (by kernel_rfl) (by kernel_rfl) (by kernel_rfl) (fun _ _ _ h => h) (yieldsIf_load_mid (by rfl) _ _ rfl (w.heap.size + 1) 0 rfl [.string (bs sch), .string (bs hh), .int .i64 pn, .string (bs pa), .string (bs qu), .string (bs fr), .bool hq, .bool hf] _ (fun _ h => LB.range h) Tryz.underlying24 rfl (by kernel_rfl)) (by assumption) ?_
              change wpAnyH _ _ _ _ _ _ _ (Act.put _ (some 71) _) _
              simp only [Act.put, List.setIfInBounds_toArray, List.set_cons_zero, List.set_cons_succ]
              refine wpAnyH_take (i := 1) (v := ?v6) rfl (by kernel_rfl) (by kernel_rfl) (by kernel_rfl) (fun _ _ _ h => h) (Or.inl ⟨by rfl, ?y6⟩) (by assumption) ?r6
              case y6 => (intro W hSw; go_simp <;> with_reducible rfl)
              change wpAnyH _ _ _ _ _ _ _ (Act.put _ (some 72) _) _
              simp only [Act.put, List.setIfInBounds_toArray, List.set_cons_zero, List.set_cons_succ]
              refine wpAnyH_take (i := 2) (v := ?v7) rfl (by kernel_rfl) (by kernel_rfl) (by kernel_rfl) (fun _ _ _ h => h) (Or.inl ⟨by rfl, ?y7⟩) (by assumption) ?r7
              case y7 => (intro W hSw; have hc := LB.c3 hSw; go_simp <;> with_reducible rfl)
              change wpAnyH _ _ _ _ _ _ _ (Act.put _ (some 73) _) _
              simp only [Act.put, List.setIfInBounds_toArray, List.set_cons_zero, List.set_cons_succ]
              refine wpAnyH_ready (rs := [3]) (by kernel_rfl) (by simp) ?_
              refine AllReadyH.cons rfl (fun K hK => ?_) AllReadyH.nil
              go_simp
              refine (hip _).mono ?_
              rintro e w2 ⟨rfl, rfl⟩
              refine hK.out _ _ hAd (fun hH3 => ?_)
              clear hK K
              refine wpAnyH_take (i := 4) (v := ?v8) rfl (by kernel_rfl) (by kernel_rfl) (by kernel_rfl) (fun _ _ _ h => h) (Or.inl ⟨by rfl, ?y8⟩) (by assumption) ?r8
              case y8 => (intro W hSw; go_simp <;> with_reducible rfl)
              change wpAnyH _ _ _ _ _ _ _ (Act.put _ (some 75) _) _
              simp only [Act.put, List.setIfInBounds_toArray, List.set_cons_zero, List.set_cons_succ]
              refine wpAnyH_take (i := 5) (v := ?v9) rfl (by kernel_rfl) (by kernel_rfl) (by kernel_rfl) (fun _ _ _ h => h) (Or.inl ⟨by rfl, ?y9⟩) (by assumption) ?r9
              case y9 => (intro W hSw; go_simp <;> with_reducible rfl)
              change wpAnyH _ _ _ _ _ _ _ (Act.put _ (some 76) _) _
              simp only [Act.put, List.setIfInBounds_toArray, List.set_cons_zero, List.set_cons_succ]
              refine wpAnyH_take (i := 6) (v := ?v10) rfl (by kernel_rfl) (by kernel_rfl) (by kernel_rfl) (fun _ _ _ h => h) (Or.inl ⟨by rfl, ?y10⟩) (by assumption) ?r10
              case y10 => (intro W hSw; have hc := LB.c5 hSw; go_simp <;> with_reducible rfl)
              change wpAnyH _ _ _ _ _ _ _ (Act.put _ (some 77) _) _
              simp only [Act.put, List.setIfInBounds_toArray, List.set_cons_zero, List.set_cons_succ]
              refine wpAnyH_ready (rs := [7]) (by kernel_rfl) (by simp) ?_
              refine AllReadyH.cons rfl (fun K hK => ?_) AllReadyH.nil
              go_simp
              refine hco.mono ?_
              rintro e w2 ⟨rfl, rfl⟩
              refine hK.out _ _ hAd (fun hH7 => ?_)
              clear hK K
              refine wpAnyH_take (i := 8) (v := ?v11) rfl (by kernel_rfl) (by kernel_rfl) (by kernel_rfl) (fun _ _ _ h => h) (Or.inl ⟨by rfl, ?y11⟩) (by assumption) ?r11
              case y11 => (intro W hSw; go_simp <;> with_reducible rfl)
              change wpAnyH _ _ _ _ _ _ _ (Act.put _ (some 79) _) _
              simp only [Act.put, List.setIfInBounds_toArray, List.set_cons_zero, List.set_cons_succ]
              refine wpAnyH_take (i := 9) (v := ?v12) rfl (by kernel_rfl) (by kernel_rfl) (by kernel_rfl) (fun _ _ _ h => h) (Or.inl ⟨by rfl, ?y12⟩) (by assumption) ?r12
              case y12 => (intro W hSw; go_simp <;> with_reducible rfl)
              change wpAnyH _ _ _ _ _ _ _ (Act.put _ (some 80) _) _
              simp only [Act.put, List.setIfInBounds_toArray, List.set_cons_zero, List.set_cons_succ]
              refine wpAnyH_ready (rs := [10]) (by kernel_rfl) (by simp) ?_
              refine AllReadyH.cons rfl (fun K hK => ?_) AllReadyH.nil
              refine wp_store_mid _ _ _ rfl w.heap.size 0 #[.string (bs sch), .string (bs hh), .int .i64 pn, .string (bs pa), .string (bs qu), .string (bs fr), .bool hq, .bool hf] rfl rfl (LB.there hRd) (by kernel_rfl) (one8 _ _ _ _ _ _ _ _) ?_
              refine hK.out _ _ hA8 (fun hHz => ?_)
              clear hK K
              refine wpAnyH_take (i := 11) (v := ?v13) rfl (by kernel_rfl) (by kernel_rfl) (by kernel_rfl) (fun _ _ _ h => h) (Or.inl ⟨by rfl, ?y13⟩) (by assumption) ?r13
              case y13 => (intro W hSw; go_simp <;> with_reducible rfl)
              change wpAnyH _ _ _ _ _ _ _ (Act.put _ (some 3) _) _
              simp only [Act.put, List.setIfInBounds_toArray]
              refine wpAnyH_done (by kernel_rfl) ?_ _
              go_wp2
              exact bodyPost_ret (by simp [results, Tryz.results22, go_sem, LB.c0 hz, LB.c1 hz, LB.c2 hz, LB.c3 hz, LB.c4 hz, LB.c5 hz, LB.c6 hz, LB.c7 hz]) rfl (ApartOut.no HN.out BZ hz)
            | false =>
              rw [hcb] at hco
              have HN := Lib.hid (show apartL s.data.toList = some ⟨sch, hh, pn, pa, qu, fr, hq, hf⟩ by rw [HB4.out, HRC.out, hpb, hcb]; rfl)
              clear hpb hcb
              go_wp2_with fail
              refine wp_region_held_drew (S := fun w' => LB (w.heap.size + 1) (bs sch) (bs hh) pn (bs pa) (bs qu) (bs fr) hq hf w') (by kernel_rfl) hAd (fun hHeld => ?_)
              refine wpAnyH_take (i := 0) (v := .agg #[.string (bs sch), .string (bs hh), .int .i64 pn, .string (bs pa), .string (bs qu), .string (bs fr), .bool hq, .bool hf]) rfl (by kernel_rfl) (by kernel_rfl) (by kernel_rfl) (fun _ _ _ h => h) (yieldsIf_load_mid (by rfl) _ _ rfl (w.heap.size + 1) 0 rfl [.string (bs sch), .string (bs hh), .int .i64 pn, .string (bs pa), .string (bs qu), .string (bs fr), .bool hq, .bool hf] _ (fun _ h => LB.range h) Tryz.underlying24 rfl (by kernel_rfl)) (by assumption) ?_
              change wpAnyH _ _ _ _ _ _ _ (Act.put _ (some 71) _) _
              simp only [Act.put, List.setIfInBounds_toArray, List.set_cons_zero, List.set_cons_succ]
              refine wpAnyH_take (i := 1) (v := ?v14) rfl (by kernel_rfl) (by kernel_rfl) (by kernel_rfl) (fun _ _ _ h => h) (Or.inl ⟨by rfl, ?y14⟩) (by assumption) ?r14
              case y14 => (intro W hSw; go_simp <;> with_reducible rfl)
              change wpAnyH _ _ _ _ _ _ _ (Act.put _ (some 72) _) _
              simp only [Act.put, List.setIfInBounds_toArray, List.set_cons_zero, List.set_cons_succ]
              refine wpAnyH_take (i := 2) (v := ?v15) rfl (by kernel_rfl) (by kernel_rfl) (by kernel_rfl) (fun _ _ _ h => h) (Or.inl ⟨by rfl, ?y15⟩) (by assumption) ?r15
              case y15 => (intro W hSw; have hc := LB.c3 hSw; go_simp <;> with_reducible rfl)
              change wpAnyH _ _ _ _ _ _ _ (Act.put _ (some 73) _) _
              simp only [Act.put, List.setIfInBounds_toArray, List.set_cons_zero, List.set_cons_succ]
              refine wpAnyH_ready (rs := [3]) (by kernel_rfl) (by simp) ?_
              refine AllReadyH.cons rfl (fun K hK => ?_) AllReadyH.nil
              go_simp
              refine (hip _).mono ?_
              rintro e w2 ⟨rfl, rfl⟩
              refine hK.out _ _ hAd (fun hH3 => ?_)
              clear hK K
              refine wpAnyH_take (i := 4) (v := ?v16) rfl (by kernel_rfl) (by kernel_rfl) (by kernel_rfl) (fun _ _ _ h => h) (Or.inl ⟨by rfl, ?y16⟩) (by assumption) ?r16
              case y16 => (intro W hSw; go_simp <;> with_reducible rfl)
              change wpAnyH _ _ _ _ _ _ _ (Act.put _ (some 75) _) _
              simp only [Act.put, List.setIfInBounds_toArray, List.set_cons_zero, List.set_cons_succ]
              refine wpAnyH_take (i := 5) (v := ?v17) rfl (by kernel_rfl) (by kernel_rfl) (by kernel_rfl) (fun _ _ _ h => h) (Or.inl ⟨by rfl, ?y17⟩) (by assumption) ?r17
              case y17 => (intro W hSw; go_simp <;> with_reducible rfl)
              change wpAnyH _ _ _ _ _ _ _ (Act.put _ (some 76) _) _
              simp only [Act.put, List.setIfInBounds_toArray, List.set_cons_zero, List.set_cons_succ]
              refine wpAnyH_take (i := 6) (v := ?v18) rfl (by kernel_rfl) (by kernel_rfl) (by kernel_rfl) (fun _ _ _ h => h) (Or.inl ⟨by rfl, ?y18⟩) (by assumption) ?r18
              case y18 => (intro W hSw; have hc := LB.c5 hSw; go_simp <;> with_reducible rfl)
              change wpAnyH _ _ _ _ _ _ _ (Act.put _ (some 77) _) _
              simp only [Act.put, List.setIfInBounds_toArray, List.set_cons_zero, List.set_cons_succ]
              refine wpAnyH_ready (rs := [7]) (by kernel_rfl) (by simp) ?_
              refine AllReadyH.cons rfl (fun K hK => ?_) AllReadyH.nil
              go_simp
              refine hco.mono ?_
              rintro e w2 ⟨rfl, rfl⟩
              refine hK.out _ _ hAd (fun hH7 => ?_)
              clear hK K
              refine wpAnyH_take (i := 8) (v := ?v19) rfl (by kernel_rfl) (by kernel_rfl) (by kernel_rfl) (fun _ _ _ h => h) (Or.inl ⟨by rfl, ?y19⟩) (by assumption) ?r19
              case y19 => (intro W hSw; go_simp <;> with_reducible rfl)
              change wpAnyH _ _ _ _ _ _ _ (Act.put _ (some 79) _) _
              simp only [Act.put, List.setIfInBounds_toArray, List.set_cons_zero, List.set_cons_succ]
              refine wpAnyH_take (i := 9) (v := ?v20) rfl (by kernel_rfl) (by kernel_rfl) (by kernel_rfl) (fun _ _ _ h => h) (Or.inl ⟨by rfl, ?y20⟩) (by assumption) ?r20
              case y20 => (intro W hSw; go_simp <;> with_reducible rfl)
              change wpAnyH _ _ _ _ _ _ _ (Act.put _ (some 80) _) _
              simp only [Act.put, List.setIfInBounds_toArray, List.set_cons_zero, List.set_cons_succ]
              refine wpAnyH_ready (rs := [10]) (by kernel_rfl) (by simp) ?_
              refine AllReadyH.cons rfl (fun K hK => ?_) AllReadyH.nil
              refine wp_store_mid _ _ _ rfl w.heap.size 0 #[.string (bs sch), .string (bs hh), .int .i64 pn, .string (bs pa), .string (bs qu), .string (bs fr), .bool hq, .bool hf] rfl rfl (LB.there hRd) (by kernel_rfl) (one8 _ _ _ _ _ _ _ _) ?_
              refine hK.out _ _ hA8 (fun hHz => ?_)
              clear hK K
              refine wpAnyH_take (i := 11) (v := ?v21) rfl (by kernel_rfl) (by kernel_rfl) (by kernel_rfl) (fun _ _ _ h => h) (Or.inl ⟨by rfl, ?y21⟩) (by assumption) ?r21
              case y21 => (intro W hSw; go_simp <;> with_reducible rfl)
              change wpAnyH _ _ _ _ _ _ _ (Act.put _ (some 3) _) _
              simp only [Act.put, List.setIfInBounds_toArray]
              refine wpAnyH_done (by kernel_rfl) ?_ _
              go_wp2
              exact bodyPost_ret (by simp [results, Tryz.results22, go_sem, LB.c0 hz, LB.c1 hz, LB.c2 hz, LB.c3 hz, LB.c4 hz, LB.c5 hz, LB.c6 hz, LB.c7 hz]) rfl (ApartOut.yes HN.out BZ)
end Go.Proofs.YtlgggibdgfdmhaaGreatDoor
