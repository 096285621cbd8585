/-
  The walks of package link's hasScheme, folder, against, Resolve. Conditions: parts of at most a hundred thousand bytes; the library's variables hold what they are laid with.
-/
import Derived.Test.YtlgggibdgfdmhaaGreatDoorKF
import Derived.Test.YtlgggibdgfdmhaaGreatDoorKG
import Derived.Test.YtlgggibdgfdmhaaGreatDoorKI
import Derived.Test.YtlgggibdgfdmhaaGreatDoorKE
namespace Go.Proofs.YtlgggibdgfdmhaaGreatDoor
open Go.RowKit
open Go.Lib

def seps : List UInt8 := [58, 47, 63, 35]
def hasSch (l : List UInt8) : Bool := decide (0 < indexAny l seps) && (l[(indexAny l seps).toNat]? == some 58) && (match l.head? with | some c => letB c | none => false)
theorem indexAny_room (l ch : List UInt8) : indexAny l ch < l.length := by
  induction l with
  | nil => show (-1 : Int) < 0; decide
  | cons b l ih =>
    unfold indexAny
    split
    · simp
    · split
      · simp; omega
      · simp; omega
set_option maxRecDepth 100000 in
set_option maxHeartbeats 1000000 in
theorem hasScheme_any (s : ByteArray) (w : World) (hs : s.size ≤ 1000000) (hia : Calls Tryz.prog 75 #[.string s, .string ⟨#[58, 47, 63, 35]⟩] w fun e w' => e = .returned (.int .i64 (indexAny s.data.toList seps)) ∧ Below w.heap.size w w') :
    Calls Tryz.prog 55 #[.string s] w fun e w' => e = .returned (.bool (hasSch s.data.toList)) ∧ Below w.heap.size w w' := by
  have HS := Lib.hid (show hasSch s.data.toList = (decide (0 < indexAny s.data.toList seps) && (s.data.toList[(indexAny s.data.toList seps).toNat]? == some 58) && (match s.data.toList.head? with | some c => letB c | none => false)) from rfl)
  have hroom := indexAny_room s.data.toList seps
  rw [← size_list] at hroom
  generalize indexAny s.data.toList seps = z at *
  by_cases hz : 0 < z
  · obtain ⟨k, rfl⟩ : ∃ k : Nat, z = k := ⟨z.toNat, by omega⟩
    have hk : k < s.size := by omega
    have h0 : 0 < s.size := by omega
    have hk0 : 0 < k := by omega
    have HH := Lib.hid (show s.data.toList.head? = some s[0] by rw [List.head?_eq_getElem?]; exact getE? s 0 h0)
    have HG := Lib.hid (show s.data.toList[((k : Nat) : Int).toNat]? = some s[k] by rw [Int.toNat_natCast]; exact getE? s k hk)
    have hl := fun W => isLetter_any s[0] W
    by_cases a : s[k] = 58
    · have b : ((s[k].toNat : Int) == 58) = true := beqT _ 58 a
      have HV := Lib.hid (show hasSch s.data.toList = letB s[0] by rw [HS.out, HG.out, HH.out, a, decide_eq_true hz]; simp)
      clear a
      go_enter Tryz.func55, Tryz.ntmps55
      go_wp2_with fail
      refine hia.mono ?_
      clear hia
      rintro e w1 ⟨rfl, b1⟩
      go_wp2_with fail
      refine (hl w1).mono ?_
      clear hl
      rintro e w2 ⟨rfl, rfl⟩
      go_wp2
      go_ret
      exact ⟨ret_bool HV.out.symm, b1⟩
    · have b : ((s[k].toNat : Int) == 58) = false := beqF _ 58 a
      have HV := Lib.hid (show hasSch s.data.toList = false by
        rw [HS.out, HG.out, show ((some s[k] : Option UInt8) == some 58) = false by simpa using a]; simp)
      clear a
      go_enter Tryz.func55, Tryz.ntmps55
      go_wp2_with fail
      refine hia.mono ?_
      clear hia
      rintro e w1 ⟨rfl, b1⟩
      go_wp2
      go_ret
      exact ⟨ret_bool HV.out.symm, b1⟩
  · have HV := Lib.hid (show hasSch s.data.toList = false by rw [HS.out, decide_eq_false hz]; rfl)
    have hz' : z ≤ 0 := by omega
    have hd : decide (0 < z) = false := decide_eq_false hz
    go_enter Tryz.func55, Tryz.ntmps55
    go_wp2_with fail
    refine hia.mono ?_
    clear hia
    rintro e w1 ⟨rfl, b1⟩
    go_wp2
    go_ret
    exact ⟨ret_bool HV.out.symm, b1⟩
def folderL (l : List UInt8) : List UInt8 := if lastS l < 0 then [47] else l.take (lastS l + 1).toNat
theorem last_lib (s : ByteArray) : lastIndexByte s 47 = lastS s.data.toList := by
  rcases lastIdx_spec s 47 s.size with ⟨h1, h2⟩ | ⟨i, hi, h1, h2, h3⟩
  · have : 47 ∉ s.data.toList := by
      intro hm
      obtain ⟨j, hj, he⟩ := List.getElem_of_mem hm
      have hj' : j < s.size := by rw [size_list]; exact hj
      have hx := h2 j hj'
      rw [getElem!_pos s.data j (by simpa using hj)] at hx
      rw [Array.getElem_toList] at he
      rw [he] at hx
      exact hx rfl
    rw [lastS_no _ this]; exact h1
  · have hil : i < s.data.toList.length := by rw [← size_list]; exact hi
    have hgi : s.data.toList[i] = 47 := by
      rw [getElem!_pos s.data i (by simpa using hil)] at h2
      rw [Array.getElem_toList]
      apply UInt8.toNat_inj.1
      show _ = 47
      omega
    have hno : 47 ∉ s.data.toList.drop (i + 1) := by
      intro hm
      obtain ⟨j, hj, he⟩ := List.getElem_of_mem hm
      rw [List.length_drop] at hj
      rw [List.getElem_drop] at he
      have hx := h3 (i + 1 + j) (by omega) (by rw [size_list]; omega)
      rw [getElem!_pos s.data (i + 1 + j) (by have := size_list s; simp at hj ⊢; omega)] at hx
      rw [Array.getElem_toList] at he
      rw [he] at hx
      exact hx rfl
    have hd : s.data.toList = s.data.toList.take i ++ 47 :: s.data.toList.drop (i + 1) := by
      have := List.drop_eq_getElem_cons hil
      rw [hgi] at this
      rw [← this, List.take_append_drop]
    have := lastS_at (s.data.toList.take i) (s.data.toList.drop (i + 1)) hno
    rw [← hd, List.length_take, Nat.min_eq_left (by omega)] at this
    rw [this]; exact h1
theorem lastS_lt (l : List UInt8) : lastS l < l.length := by
  unfold lastS; omega
set_option maxRecDepth 100000 in
theorem folder_any (s : ByteArray) (w : World) (hs : s.size ≤ 1000000) : Calls Tryz.prog 56 #[.string s] w fun e w' => e = .returned (.string (bs (folderL s.data.toList))) ∧ w = w' := by
  have hl := libLastIndexByte s 47 (by omega) w
  rw [last_lib] at hl
  have hlt := lastS_lt s.data.toList
  rw [← size_list] at hlt
  have HF := Lib.hid (show folderL s.data.toList = if lastS s.data.toList < 0 then [47] else s.data.toList.take (lastS s.data.toList + 1).toNat from rfl)
  generalize lastS s.data.toList = z at *
  by_cases hz : z < 0
  · have HV := Lib.hid (show (⟨#[47]⟩ : ByteArray) = bs (folderL s.data.toList) by rw [HF.out, if_pos hz]; rfl)
    go_enter Tryz.func56, Tryz.ntmps56
    go_wp2_with fail
    refine hl.mono ?_
    clear hl
    rintro e w1 ⟨rfl, rfl⟩
    go_wp2
    go_ret
    exact ⟨ret_str HV.out, rfl⟩
  · obtain ⟨k, rfl⟩ : ∃ k : Nat, z = k := ⟨z.toNat, by omega⟩
    have hk : k + 1 ≤ s.size := by omega
    have HV := Lib.hid (show s.extract 0 (k + 1) = bs (folderL s.data.toList) by rw [HF.out, if_neg hz, ext_take, show ((k : Int) + 1).toNat = k + 1 by omega])
    clear hz
    go_enter Tryz.func56, Tryz.ntmps56
    go_wp2_with fail
    refine hl.mono ?_
    clear hl
    rintro e w1 ⟨rfl, rfl⟩
    go_wp2
    go_ret
    exact ⟨ret_str HV.out, rfl⟩
theorem folder_length (l : List UInt8) : (folderL l).length ≤ l.length + 1 := by
  unfold folderL; split
  · simp
  · rw [List.length_take]; omega
/-- What a text stands for beside a link, and whether dots are left out. -/
def againstL (p : Lk) (l : List UInt8) : List UInt8 × Bool :=
  if hasSch l then (l, false)
  else if ([47, 47] : List UInt8).isPrefixOf l then (p.scheme ++ [58] ++ l, true)
  else if ([47] : List UInt8).isPrefixOf l then (rootL p ++ l, true)
  else if l.isEmpty || l.head? == some 35 then (printL { p with hasF := false } ++ l, false)
  else if l.head? == some 63 then (printL { p with hasF := false, hasQ := false } ++ l, false)
  else (rootL p ++ folderL p.path ++ l, true)
theorem Fits.off {p : Lk} (h : Fits p) (x y : Bool) : Fits { p with hasQ := x, hasF := y } := ⟨h.sch, h.host, h.port, h.path, h.query, h.frag⟩
theorem print_length {p : Lk} (h : Fits p) : (printL p).length ≤ 600000 := by
  have h0 := root_length p h
  have h1 := h.path; have h2 := h.query; have h3 := h.frag
  unfold printL restL markL
  split <;> split <;> simp <;> omega
def AgOut (f : List UInt8 × Bool) (w : World) (e : Ending) (w' : World) : Prop := e = .returned (.tuple #[.string (bs f.1), .bool f.2]) ∧ Below w.heap.size w w'
theorem AgOut.mk {f : List UInt8 × Bool} {t : ByteArray} {b : Bool} {w w' : World} (h1 : t = bs f.1) (h2 : b = f.2) (hb : Below w.heap.size w w') : AgOut f w (.returned (.tuple #[.string t, .bool b])) w' := by
  subst h1 h2; exact ⟨rfl, hb⟩
set_option maxRecDepth 100000 in
set_option maxHeartbeats 4000000 in
theorem against_any (p : Lk) (s : ByteArray) (w : World) (hE : Env w) (hf : Fits p) (hs : s.size ≤ 100000)
    (hia : ∀ W, Calls Tryz.prog 75 #[.string s, .string ⟨#[58, 47, 63, 35]⟩] W fun e w' => e = .returned (.int .i64 (indexAny s.data.toList seps)) ∧ Below W.heap.size W w') :
    Calls Tryz.prog 31 #[lkV p, .string s] w (AgOut (againstL p s.data.toList) w) := by
  have hL : LB w.heap.size (bs p.scheme) (bs p.host) p.port (bs p.path) (bs p.query) (bs p.frag) p.hasQ p.hasF (w.alloc (.cells #[.string (bs p.scheme), .string (bs p.host), .int .i64 p.port, .string (bs p.path), .string (bs p.query), .string (bs p.frag), .bool p.hasQ, .bool p.hasF] 24)) := Blk.new _ w
  have B0 : Below w.heap.size w (w.alloc (.cells #[.string (bs p.scheme), .string (bs p.host), .int .i64 p.port, .string (bs p.path), .string (bs p.query), .string (bs p.frag), .bool p.hasQ, .bool p.hasF] 24)) := (Below.refl _ _).alloc (Nat.le_refl _) _
  have hsc := fun W => hasScheme_any s W (by omega) (hia W)
  have hp2 := fun W => hasPrefix_any s ⟨#[47, 47]⟩ W
  have hp1 := fun W => hasPrefix_any s ⟨#[47]⟩ W
  rw [show (⟨#[47, 47]⟩ : ByteArray).data.toList = [47, 47] from rfl] at hp2
  rw [show (⟨#[47]⟩ : ByteArray).data.toList = [47] from rfl] at hp1
  have z1 : (bs p.scheme).size ≤ 100000 := by rw [bs_size]; exact hf.sch
  have zr : (bs (rootL p)).size ≤ 200009 := by rw [bs_size]; exact root_length p hf
  have HAG := Lib.hid (show againstL p s.data.toList = if hasSch s.data.toList then (s.data.toList, false)
    else if ([47, 47] : List UInt8).isPrefixOf s.data.toList then (p.scheme ++ [58] ++ s.data.toList, true)
    else if ([47] : List UInt8).isPrefixOf s.data.toList then (rootL p ++ s.data.toList, true)
    else if s.data.toList.isEmpty || s.data.toList.head? == some 35 then (printL { p with hasF := false } ++ s.data.toList, false)
    else if s.data.toList.head? == some 63 then (printL { p with hasF := false, hasQ := false } ++ s.data.toList, false)
    else (rootL p ++ folderL p.path ++ s.data.toList, true) from rfl)
  have HSB := Lib.hid (bs_self s)
  have hrt := fun W hW => root_any p W hW hf
  have hpr1 := fun W hW => print_any { p with hasF := false } W hW (hf.off p.hasQ false)
  have hpr2 := fun W hW => print_any { p with hasF := false, hasQ := false } W hW (hf.off false false)
  have zp1 : (bs (printL { p with hasF := false })).size ≤ 600000 := by rw [bs_size]; exact print_length (hf.off p.hasQ false)
  have zp2 : (bs (printL { p with hasF := false, hasQ := false })).size ≤ 600000 := by rw [bs_size]; exact print_length (hf.off false false)
  -- the fields that decide no text stay
  have hrt' : ∀ W, Env W → Calls Tryz.prog 29 #[.agg #[.string (bs p.scheme), .string (bs p.host), .int .i64 p.port, .string (bs p.path), .string (bs p.query), .string (bs p.frag), .bool p.hasQ, .bool false]] W fun e w' => e = .returned (.string (bs (rootL p))) ∧ Below W.heap.size W w' :=
    fun W hW => root_any { p with hasF := false } W hW (hf.off p.hasQ false)
  clear hrt
  unfold lkV aggV at hpr1 hpr2 ⊢
  go_enter Tryz.func31, Tryz.ntmps31
  go_wp2_with (guard_target =~ Go.wpList _ _ _ ({ dst := none, op := Go.Op.store _ _ _, type := _, pos := _, after := _, guard := none } :: _) _ _; refine st1 (k := 7) (v := .bool false) rfl rfl hL (by show _ < 8; decide) rfl Tryz.sizeOf4 ?_)
  intro w0 hb0 g0
  have hL0 : LB w.heap.size (bs p.scheme) (bs p.host) p.port (bs p.path) (bs p.query) (bs p.frag) p.hasQ false w0 := by
    have e : (lcs (bs p.scheme) (bs p.host) p.port (bs p.path) (bs p.query) (bs p.frag) p.hasQ p.hasF).setIfInBounds 7 (.bool false) = lcs (bs p.scheme) (bs p.host) p.port (bs p.path) (bs p.query) (bs p.frag) p.hasQ false := by simp [lcs]
    rw [e] at hb0
    exact hb0
  have B0' : Below w.heap.size w w0 := B0.grown g0 (by simp) (fun k hk => by injection hk with hk; omega)
  clear hL B0 hb0 g0
  have hsc0 := hsc w0
  clear hsc hia
  cases hq : hasSch s.data.toList with
  | true =>
    rw [hq] at hsc0
    have HV := Lib.hid (show againstL p s.data.toList = (s.data.toList, false) by rw [HAG.out, if_pos hq])
    clear hq
    go_wp2_with fail
    refine hsc0.mono ?_
    clear hsc0
    rintro e w1 ⟨rfl, b1⟩
    have B1 := B0'.trans (b1.mono B0'.size)
    go_wp2
    go_ret2
    exact AgOut.mk (by rw [HV.out]; exact HSB.out.symm) (by rw [HV.out]) B1
  | false =>
    rw [hq] at hsc0
    go_wp2_with fail
    refine hsc0.mono ?_
    clear hsc0
    rintro e w1 ⟨rfl, b1⟩
    have B1 := B0'.trans (b1.mono B0'.size)
    have hL1 := hL0.below b1
    have hE1 := hE.below B1
    clear B0' hL0 b1
    have c0 := hL1.c0
    have hp2 := hp2 w1
    have hp1 := hp1 w1
    cases hq2 : ([47, 47] : List UInt8).isPrefixOf s.data.toList with
    | true =>
      rw [hq2] at hp2
      have HV := Lib.hid (show againstL p s.data.toList = (p.scheme ++ [58] ++ s.data.toList, true) by rw [HAG.out, if_neg (by simp [hq]), if_pos hq2])
      have HT := Lib.hid (show bs p.scheme ++ ⟨#[58]⟩ ++ s = bs (p.scheme ++ [58] ++ s.data.toList) by rw [← HSB.out, bs_lit1, bs_cat, bs_cat, HSB.out])
      clear hq hq2
      go_wp2_with fail
      refine hp2.mono ?_
      clear hp2
      rintro e w2 ⟨rfl, rfl⟩
      go_wp2
      go_ret2
      exact AgOut.mk (by rw [HV.out]; exact HT.out) (by rw [HV.out]) B1
    | false =>
      rw [hq2] at hp2
      cases hq3 : ([47] : List UInt8).isPrefixOf s.data.toList with
      | true =>
        rw [hq3] at hp1
        have HV := Lib.hid (show againstL p s.data.toList = (rootL p ++ s.data.toList, true) by rw [HAG.out, if_neg (by simp [hq]), if_neg (by simp [hq2]), if_pos hq3])
        have HT := Lib.hid (show bs (rootL p) ++ s = bs (rootL p ++ s.data.toList) by rw [← bs_cat, HSB.out])
        clear hq hq2 hq3
        go_wp2_with fail
        refine hp2.mono ?_
        clear hp2
        rintro e w2 ⟨rfl, rfl⟩
        go_wp2_with fail
        refine hp1.mono ?_
        clear hp1
        rintro e w2 ⟨rfl, rfl⟩
        have hr1 := hrt' w1 hE1
        clear hrt'
        go_wp2_with (guard_target =~ Go.wpList _ _ _ ({ dst := _, op := Go.Op.load 24 _, type := _, pos := _, after := _, guard := none } :: _) _ _; refine ld24 rfl hL1 ?_)
        refine hr1.mono ?_
        clear hr1
        rintro e w3 ⟨rfl, b3⟩
        have B3 := B1.trans (b3.mono B1.size)
        go_wp2
        go_ret2
        exact AgOut.mk (by rw [HV.out]; exact HT.out) (by rw [HV.out]) B3
      | false =>
        rw [hq3] at hp1
        by_cases hnil : s.size = 0
        · obtain rfl := empty_of s hnil
          have HV := Lib.hid (show againstL p [] = (printL { p with hasF := false } ++ [], false) from by
            have := HAG.out; rw [if_neg (by simp [hq]), if_neg (by simp [hq2]), if_neg (by simp [hq3])] at this; exact this)
          have HT := Lib.hid (show bs (printL { p with hasF := false }) ++ ⟨#[]⟩ = bs (printL { p with hasF := false } ++ []) from bs_cat _ [])
          clear hq hq2 hq3 hnil
          have hr1 := hpr1 w1 hE1
          clear hpr1 hpr2
          generalize printL { p with hasF := false } = T at *
          go_wp2_with fail
          refine hp2.mono ?_
          clear hp2
          rintro e w2 ⟨rfl, rfl⟩
          go_wp2_with fail
          refine hp1.mono ?_
          clear hp1
          rintro e w2 ⟨rfl, rfl⟩
          go_wp2_with (guard_target =~ Go.wpList _ _ _ ({ dst := _, op := Go.Op.load 24 _, type := _, pos := _, after := _, guard := none } :: _) _ _; refine ld24 rfl hL1 ?_)
          refine hr1.mono ?_
          clear hr1
          rintro e w3 ⟨rfl, b3⟩
          have B3 := B1.trans (b3.mono B1.size)
          go_wp2
          go_ret2
          exact AgOut.mk (by rw [HV.out]; exact HT.out) (by rw [HV.out]) B3
        · have hpos : 0 < s.size := by omega
          have hne := list_ne s hpos
          have hne2 : (s.toList == ([] : List UInt8)) = false := by simpa using hne
          have HE := Lib.hid (show s.data.toList.isEmpty = false by rw [toL] at hne; cases hx : s.data.toList with
            | nil => exact absurd hx hne
            | cons _ _ => rfl)
          have HH := Lib.hid (show s.data.toList.head? = some s[0] by rw [List.head?_eq_getElem?]; exact getE? s 0 hpos)
          clear hnil
          by_cases h35 : s[0] = 35
          · have b : ((s[0].toNat : Int) == 35) = true := beqT _ 35 h35
            have HV := Lib.hid (show againstL p s.data.toList = (printL { p with hasF := false } ++ s.data.toList, false) by rw [HAG.out, if_neg (by simp [hq]), if_neg (by simp [hq2]), if_neg (by simp [hq3]), if_pos (by rw [HH.out, h35]; simp)])
            have HT := Lib.hid (show bs (printL { p with hasF := false }) ++ s = bs (printL { p with hasF := false } ++ s.data.toList) by rw [← bs_cat, HSB.out])
            clear hq hq2 hq3 h35
            have hr1 := hpr1 w1 hE1
            clear hpr1 hpr2
            generalize printL { p with hasF := false } = T at *
            go_wp2_with fail
            refine hp2.mono ?_
            clear hp2
            rintro e w2 ⟨rfl, rfl⟩
            go_wp2_with fail
            refine hp1.mono ?_
            clear hp1
            rintro e w2 ⟨rfl, rfl⟩
            go_wp2_with (guard_target =~ Go.wpList _ _ _ ({ dst := _, op := Go.Op.load 24 _, type := _, pos := _, after := _, guard := none } :: _) _ _; refine ld24 rfl hL1 ?_)
            refine hr1.mono ?_
            clear hr1
            rintro e w3 ⟨rfl, b3⟩
            have B3 := B1.trans (b3.mono B1.size)
            go_wp2
            go_ret2
            exact AgOut.mk (by rw [HV.out]; exact HT.out) (by rw [HV.out]) B3
          · have b : ((s[0].toNat : Int) == 35) = false := beqF _ 35 h35
            by_cases h63 : s[0] = 63
            · have b2 : ((s[0].toNat : Int) == 63) = true := beqT _ 63 h63
              have HV := Lib.hid (show againstL p s.data.toList = (printL { p with hasF := false, hasQ := false } ++ s.data.toList, false) by rw [HAG.out, if_neg (by simp [hq]), if_neg (by simp [hq2]), if_neg (by simp [hq3]), if_neg (by rw [HH.out, HE.out, h63]; decide), if_pos (by rw [HH.out, h63]; decide)])
              have HT := Lib.hid (show bs (printL { p with hasF := false, hasQ := false }) ++ s = bs (printL { p with hasF := false, hasQ := false } ++ s.data.toList) by rw [← bs_cat, HSB.out])
              clear hq hq2 hq3 h35 h63
              clear hpr1
              go_wp2_with fail
              refine hp2.mono ?_
              clear hp2
              rintro e w2 ⟨rfl, rfl⟩
              go_wp2_with fail
              refine hp1.mono ?_
              clear hp1
              rintro e w2 ⟨rfl, rfl⟩
              go_wp2_with (guard_target =~ Go.wpList _ _ _ ({ dst := none, op := Go.Op.store _ _ _, type := _, pos := _, after := _, guard := none } :: _) _ _; refine st1 (k := 6) (v := .bool false) rfl rfl hL1 (by show _ < 8; decide) rfl Tryz.sizeOf4 ?_)
              intro w3 hb3 g3
              have hL3 : LB w.heap.size (bs p.scheme) (bs p.host) p.port (bs p.path) (bs p.query) (bs p.frag) false false w3 := by
                have e : (lcs (bs p.scheme) (bs p.host) p.port (bs p.path) (bs p.query) (bs p.frag) p.hasQ false).setIfInBounds 6 (.bool false) = lcs (bs p.scheme) (bs p.host) p.port (bs p.path) (bs p.query) (bs p.frag) false false := by simp [lcs]
                rw [e] at hb3
                exact hb3
              have B3 : Below w.heap.size w w3 := B1.grown g3 B1.size (fun k hk => by injection hk with hk; omega)
              clear hL1 B1 hb3 g3 c0
              have hr1 := hpr2 w3 (hE.below B3)
              clear hpr2
              generalize printL { p with hasF := false, hasQ := false } = T at *
              go_wp2_with (guard_target =~ Go.wpList _ _ _ ({ dst := _, op := Go.Op.load 24 _, type := _, pos := _, after := _, guard := none } :: _) _ _; refine ld24 rfl hL3 ?_)
              refine hr1.mono ?_
              clear hr1
              rintro e w4 ⟨rfl, b4⟩
              have B4 := B3.trans (b4.mono B3.size)
              go_wp2
              go_ret2
              exact AgOut.mk (by rw [HV.out]; exact HT.out) (by rw [HV.out]) B4
            · have b2 : ((s[0].toNat : Int) == 63) = false := beqF _ 63 h63
              have HV := Lib.hid (show againstL p s.data.toList = (rootL p ++ folderL p.path ++ s.data.toList, true) by rw [HAG.out, if_neg (by simp [hq]), if_neg (by simp [hq2]), if_neg (by simp [hq3]), if_neg (by rw [HH.out, HE.out]; simpa using h35), if_neg (by rw [HH.out]; simpa using h63)])
              have HT := Lib.hid (show bs (rootL p) ++ bs (folderL p.path) ++ s = bs (rootL p ++ folderL p.path ++ s.data.toList) by rw [bs_cat, ← bs_cat _ s.data.toList, HSB.out])
              clear hq hq2 hq3 h35 h63 hpr1 hpr2
              have hfo := fun W => folder_any (bs p.path) W (by rw [bs_size]; have := hf.path; omega)
              rw [bs_list] at hfo
              have zf : (bs (folderL p.path)).size ≤ 100001 := by rw [bs_size]; have h1 := folder_length p.path; have h2 := hf.path; omega
              go_wp2_with fail
              refine hp2.mono ?_
              clear hp2
              rintro e w2 ⟨rfl, rfl⟩
              go_wp2_with fail
              refine hp1.mono ?_
              clear hp1
              rintro e w2 ⟨rfl, rfl⟩
              have hLd := hL1.drew
              have hEd : Env w1.drew := hE1.below ⟨rfl, rfl, rfl, Nat.le_refl _, fun _ _ => rfl⟩
              have Bd : Below w.heap.size w w1.drew := B1.trans ⟨rfl, rfl, rfl, Nat.le_refl _, fun _ _ => rfl⟩
              have hr1 := hrt' w1.drew hEd
              clear hrt' c0
              generalize bs (rootL p) = RT at *
              generalize bs (folderL p.path) = FO at *
              have q1 : ¬ 9223372036854775807 < RT.size + FO.size := by omega
              have q2 : ¬ 9223372036854775807 < RT.size + FO.size + s.size := by omega
              have q3 : ¬ 9223372036854775807 < (RT ++ FO).size + s.size := by rw [ByteArray.size_append]; omega
              go_wp2_with fail
              refine wp_region_held_drew (S := fun W => LB w.heap.size (bs p.scheme) (bs p.host) p.port (bs p.path) (bs p.query) (bs p.frag) p.hasQ false W) (by kernel_rfl) hLd (fun hHeld => ?_)
              refine wpAnyH_take (i := 0) (v := .agg #[.string (bs p.scheme), .string (bs p.host), .int .i64 p.port, .string (bs p.path), .string (bs p.query), .string (bs p.frag), .bool p.hasQ, .bool false]) rfl (by kernel_rfl) (by kernel_rfl) (by kernel_rfl) (fun _ _ _ h => h) (yieldsIf_load_mid (by rfl) _ _ rfl w.heap.size 0 rfl [.string (bs p.scheme), .string (bs p.host), .int .i64 p.port, .string (bs p.path), .string (bs p.query), .string (bs p.frag), .bool p.hasQ, .bool false] _ (fun _ h => LB.range h) Tryz.underlying24 rfl (by kernel_rfl)) (by assumption) ?_
              change wpAnyH _ _ _ _ _ _ _ (Act.put _ (some 45) _) _
              simp only [Act.put, List.setIfInBounds_toArray, List.set_cons_zero, List.set_cons_succ]
              refine wpAnyH_take (i := 2) (v := ?v1) rfl (by kernel_rfl) (by kernel_rfl) (by kernel_rfl) (fun _ _ _ h => h) (Or.inl ⟨by rfl, ?y1⟩) (by assumption) ?r1
              case y1 => (intro W hSw; go_simp <;> with_reducible rfl)
              change wpAnyH _ _ _ _ _ _ _ (Act.put _ (some 47) _) _
              simp only [Act.put, List.setIfInBounds_toArray, List.set_cons_zero, List.set_cons_succ]
              refine wpAnyH_take (i := 3) (v := ?v2) rfl (by kernel_rfl) (by kernel_rfl) (by kernel_rfl) (fun _ _ _ h => h) (Or.inl ⟨by rfl, ?y2⟩) (by assumption) ?r2
              case y2 => (intro W hSw; have hc := LB.c3 hSw; go_simp <;> with_reducible rfl)
              change wpAnyH _ _ _ _ _ _ _ (Act.put _ (some 48) _) _
              simp only [Act.put, List.setIfInBounds_toArray, List.set_cons_zero, List.set_cons_succ]
              refine wpAnyH_take (i := 6) (v := ?v3) rfl (by kernel_rfl) (by kernel_rfl) (by kernel_rfl) (fun _ _ _ h => h) (Or.inl ⟨by rfl, ?y3⟩) (by assumption) ?r3
              case y3 => (intro W hSw; go_simp <;> with_reducible rfl)
              change wpAnyH _ _ _ _ _ _ _ (Act.put _ (some 51) _) _
              simp only [Act.put, List.setIfInBounds_toArray, List.set_cons_zero, List.set_cons_succ]
              refine wpAnyH_ready (rs := [1]) (by kernel_rfl) (by simp) ?_
              refine AllReadyH.cons rfl (fun K hK => ?_) AllReadyH.nil
              go_simp
              refine hr1.mono ?_
              rintro e w3 ⟨rfl, b3⟩
              refine hK.out _ _ (LB.below hHeld b3) (fun hH1 => ?_)
              clear hK K
              refine wpAnyH_ready (rs := [4]) (by kernel_rfl) (by simp) ?_
              refine AllReadyH.cons rfl (fun K hK => ?_) AllReadyH.nil
              go_simp
              refine (hfo _).mono ?_
              rintro e w4 ⟨rfl, rfl⟩
              refine hK.out _ _ hH1 (fun hH4 => ?_)
              clear hK K
              refine wpAnyH_take (i := 5) (v := ?v4) rfl (by kernel_rfl) (by kernel_rfl) (by kernel_rfl) (fun _ _ _ h => h) (Or.inl ⟨by rfl, ?y4⟩) (by assumption) ?r4
              case y4 => (intro W hSw; go_simp <;> with_reducible rfl)
              change wpAnyH _ _ _ _ _ _ _ (Act.put _ (some 50) _) _
              simp only [Act.put, List.setIfInBounds_toArray, List.set_cons_zero, List.set_cons_succ]
              refine wpAnyH_take (i := 7) (v := ?v5) rfl (by kernel_rfl) (by kernel_rfl) (by kernel_rfl) (fun _ _ _ h => h) (Or.inl ⟨by rfl, ?y5⟩) (by assumption) ?r5
              case y5 => (intro W hSw; go_simp <;> with_reducible rfl)
              change wpAnyH _ _ _ _ _ _ _ (Act.put _ (some 52) _) _
              simp only [Act.put, List.setIfInBounds_toArray, List.set_cons_zero, List.set_cons_succ]
              refine wpAnyH_take (i := 8) (v := ?v6) rfl (by kernel_rfl) (by kernel_rfl) (by kernel_rfl) (fun _ _ _ h => h) (Or.inl ⟨by rfl, ?y6⟩) (by assumption) ?r6
              case y6 => (intro W hSw; go_simp <;> with_reducible rfl)
              change wpAnyH _ _ _ _ _ _ _ (Act.put _ (some 4) _) _
              simp only [Act.put, List.setIfInBounds_toArray, List.set_cons_zero, List.set_cons_succ]
              refine wpAnyH_take (i := 9) (v := ?v7) rfl (by kernel_rfl) (by kernel_rfl) (by kernel_rfl) (fun _ _ _ h => h) (Or.inl ⟨by rfl, ?y7⟩) (by assumption) ?r7
              case y7 => (intro W hSw; go_simp <;> with_reducible rfl)
              change wpAnyH _ _ _ _ _ _ _ (Act.put _ (some 5) _) _
              simp only [Act.put, List.setIfInBounds_toArray, List.set_cons_zero, List.set_cons_succ]
              refine wpAnyH_done (by kernel_rfl) ?_ _
              go_wp2
              go_ret2
              exact AgOut.mk (by rw [HV.out]; exact HT.out) (by rw [HV.out]) (Bd.trans (b3.mono Bd.size))
theorem ParseOut.of_none {f : Option Lk} {w w' : World} (H : f = none) (hb : Below w.heap.size w w') : ParseOut f w (.returned (.tuple #[.agg #[.string ⟨#[]⟩, .string ⟨#[]⟩, .int .i64 0, .string ⟨#[]⟩, .string ⟨#[]⟩, .string ⟨#[]⟩, .bool false, .bool false], .int .i64 40])) w' := by
  rw [H]; exact ⟨rfl, hb⟩
theorem ParseOut.of_some {f : Option Lk} {w w' : World} {p : Lk} (H : f = some p) (hb : Below w.heap.size w w') : ParseOut f w (.returned (.tuple #[.agg #[.string (bs p.scheme), .string (bs p.host), .int .i64 p.port, .string (bs p.path), .string (bs p.query), .string (bs p.frag), .bool p.hasQ, .bool p.hasF], .int .i64 0])) w' := by
  rw [H]; exact ⟨rfl, hb⟩
def resolveL (p : Lk) (l : List UInt8) : Option Lk := (parseL (againstL p l).1).map (fun q => if (againstL p l).2 then { q with path := dotsL q.path } else q)
set_option maxRecDepth 100000 in
set_option maxHeartbeats 4000000 in
theorem resolve_any (p : Lk) (s : ByteArray) (w : World) (hE : Env w) (hf : Fits p) (hs : s.size ≤ 100000)
    (hia : ∀ W, Calls Tryz.prog 75 #[.string s, .string ⟨#[58, 47, 63, 35]⟩] W fun e w' => e = .returned (.int .i64 (indexAny s.data.toList seps)) ∧ Below W.heap.size W w') :
    Calls Tryz.prog 14 #[lkV p, .string s] w (ParseOut (resolveL p s.data.toList) w) := by
  have hL0 : LB w.heap.size (bs p.scheme) (bs p.host) p.port (bs p.path) (bs p.query) (bs p.frag) p.hasQ p.hasF (w.alloc (.cells #[.string (bs p.scheme), .string (bs p.host), .int .i64 p.port, .string (bs p.path), .string (bs p.query), .string (bs p.frag), .bool p.hasQ, .bool p.hasF] 24)) := Blk.new _ w
  have hL := hL0.alloc (.cells #[.string ⟨#[]⟩, .string ⟨#[]⟩, .int .i64 0, .string ⟨#[]⟩, .string ⟨#[]⟩, .string ⟨#[]⟩, .bool false, .bool false] 24)
  have hR : LZ (w.alloc (.cells #[.string (bs p.scheme), .string (bs p.host), .int .i64 p.port, .string (bs p.path), .string (bs p.query), .string (bs p.frag), .bool p.hasQ, .bool p.hasF] 24)).heap.size ((w.alloc (.cells #[.string (bs p.scheme), .string (bs p.host), .int .i64 p.port, .string (bs p.path), .string (bs p.query), .string (bs p.frag), .bool p.hasQ, .bool p.hasF] 24)).alloc (.cells #[.string ⟨#[]⟩, .string ⟨#[]⟩, .int .i64 0, .string ⟨#[]⟩, .string ⟨#[]⟩, .string ⟨#[]⟩, .bool false, .bool false] 24)) := Blk.new _ _
  rw [show (w.alloc (.cells #[.string (bs p.scheme), .string (bs p.host), .int .i64 p.port, .string (bs p.path), .string (bs p.query), .string (bs p.frag), .bool p.hasQ, .bool p.hasF] 24)).heap.size = w.heap.size + 1 by simp] at hR
  have B0 : Below w.heap.size w ((w.alloc (.cells #[.string (bs p.scheme), .string (bs p.host), .int .i64 p.port, .string (bs p.path), .string (bs p.query), .string (bs p.frag), .bool p.hasQ, .bool p.hasF] 24)).alloc (.cells #[.string ⟨#[]⟩, .string ⟨#[]⟩, .int .i64 0, .string ⟨#[]⟩, .string ⟨#[]⟩, .string ⟨#[]⟩, .bool false, .bool false] 24)) := ((Below.refl _ _).alloc (Nat.le_refl _) _).alloc (by simp) _
  have hz0 : ((w.alloc (.cells #[.string (bs p.scheme), .string (bs p.host), .int .i64 p.port, .string (bs p.path), .string (bs p.query), .string (bs p.frag), .bool p.hasQ, .bool p.hasF] 24)).alloc (.cells #[.string ⟨#[]⟩, .string ⟨#[]⟩, .int .i64 0, .string ⟨#[]⟩, .string ⟨#[]⟩, .string ⟨#[]⟩, .bool false, .bool false] 24)).heap.size = w.heap.size + 2 := by simp
  have HZ0 := Lib.hid hz0
  have hag := against_any p s ((w.alloc (.cells #[.string (bs p.scheme), .string (bs p.host), .int .i64 p.port, .string (bs p.path), .string (bs p.query), .string (bs p.frag), .bool p.hasQ, .bool p.hasF] 24)).alloc (.cells #[.string ⟨#[]⟩, .string ⟨#[]⟩, .int .i64 0, .string ⟨#[]⟩, .string ⟨#[]⟩, .string ⟨#[]⟩, .bool false, .bool false] 24)) (hE.below B0) hf hs hia
  unfold AgOut at hag
  have HRS := Lib.hid (show resolveL p s.data.toList = (parseL (againstL p s.data.toList).1).map (fun q => if (againstL p s.data.toList).2 then { q with path := dotsL q.path } else q) from rfl)
  generalize resolveL p s.data.toList = RES at *
  have htl : (againstL p s.data.toList).1.length ≤ 1000000 := by
    have h1 := root_length p hf
    have h2 := print_length (hf.off p.hasQ false)
    have h3 := print_length (hf.off false false)
    have h4 := folder_length p.path
    have h5 := hf.path; have h6 := hf.sch
    rw [size_list] at hs
    unfold againstL
    repeat' split
    all_goals simp only [List.length_append, List.length_cons, List.length_nil]
    all_goals omega
  generalize (againstL p s.data.toList).1 = T at *
  generalize (againstL p s.data.toList).2 = D at *
  have hpa := fun W hW => parse_any (bs T) W hW (by rw [bs_size]; omega)
  rw [bs_list] at hpa
  unfold ParseOut lkV aggV at hpa
  unfold lkV aggV at hag ⊢
  have HPS := Lib.hid (fun q (h : parseL T = some q) => parseL_some h)
  generalize parseL T = pf at *
  clear hz0 hL0 hia
  go_enter Tryz.func14, Tryz.ntmps14
  go_wp2_with (guard_target =~ Go.wpList _ _ _ ({ dst := _, op := Go.Op.load 24 _, type := _, pos := _, after := _, guard := none } :: _) _ _; refine ld24 rfl hL ?_)
  refine hag.mono ?_
  clear hag
  rintro e w1 ⟨rfl, b1⟩
  have hR1 : LZ (w.heap.size + 1) w1 := LB.below hR b1
  have B1 : Below w.heap.size w w1 := B0.trans (b1.mono (by rw [HZ0.out]; omega))
  have hz1 : w.heap.size + 2 ≤ w1.heap.size := by have := b1.size; rw [HZ0.out] at this; exact this
  clear hL hR B0 b1 HZ0
  have hpa1 := hpa w1 (hE.below B1)
  clear hpa
  have HNEW : ∀ W : World, LZ W.heap.size (W.alloc (.cells #[.string ⟨#[]⟩, .string ⟨#[]⟩, .int .i64 0, .string ⟨#[]⟩, .string ⟨#[]⟩, .string ⟨#[]⟩, .bool false, .bool false] 24)) := fun W => Blk.new _ W
  cases pf with
  | none =>
    simp only [Option.getD_none, Option.isSome_none, Bool.false_eq_true, if_false] at hpa1
    have HV := Lib.hid (show RES = none by rw [HRS.out]; rfl)
    have hpa1 : Calls Tryz.prog 11 #[.string (bs T)] w1 fun e w' => e = .returned (.tuple #[.agg #[.string ⟨#[]⟩, .string ⟨#[]⟩, .int .i64 0, .string ⟨#[]⟩, .string ⟨#[]⟩, .string ⟨#[]⟩, .bool false, .bool false], .int .i64 40]) ∧ Below w1.heap.size w1 w' := hpa1
    go_wp2_with fail
    refine hpa1.mono ?_
    clear hpa1
    rintro e w2 ⟨rfl, b2⟩
    have hR2 : LZ (w.heap.size + 1) w2 := LB.below hR1 b2
    have B2 := B1.trans (b2.mono B1.size)
    have hz2 : w.heap.size + 2 ≤ w2.heap.size := by have := b2.size; omega
    have hA2 := HNEW w2
    clear hR1 B1 b2 HNEW
    go_wp2_with (guard_target =~ Go.wpList _ _ _ ({ dst := none, op := Go.Op.store 24 _ _, type := _, pos := _, after := _, guard := none } :: _) _ _; refine st24 rfl rfl hA2 ?_)
    intro w3 hA3 g3
    have hR3 : LZ (w.heap.size + 1) w3 := LB.grown (LB.alloc hR2 _) g3 (by simp; omega)
    have B3 : Below w.heap.size w w3 := (B2.alloc B2.size _).grown g3 (by simp; omega) (fun k hk => by injection hk with hk; omega)
    have hz3 : w2.heap.size < w3.heap.size := LB.lt hA3
    clear hA2 hR2 B2 g3
    cases D with
    | false =>
      go_wp2_with (first | (guard_target =~ Go.wpList _ _ _ ({ dst := _, op := Go.Op.load 24 _, type := _, pos := _, after := _, guard := none } :: _) _ _; refine ld24 rfl hA3 ?_) | (guard_target =~ Go.wpList _ _ _ ({ dst := none, op := Go.Op.store 24 _ _, type := _, pos := _, after := _, guard := none } :: _) _ _; refine st24 rfl rfl hR3 ?_))
      intro wz hz gz
      have BZ : Below w.heap.size w wz := B3.grown gz B3.size (fun k hk => by injection hk with hk; omega)
      go_wp2
      exact bodyPost_ret (by simp [results, Tryz.results14, go_sem, LB.c0 hz, LB.c1 hz, LB.c2 hz, LB.c3 hz, LB.c4 hz, LB.c5 hz, LB.c6 hz, LB.c7 hz]) rfl (ParseOut.of_none HV.out BZ)
    | true =>
      have hdo := dots_any ⟨#[]⟩ w3 (hE.below B3) (by decide)
      have hdo : Calls Tryz.prog 16 #[.string ⟨#[]⟩] w3 fun e w' => e = .returned (.string ⟨#[]⟩) ∧ Below w3.heap.size w3 w' := hdo
      have c3 := LB.c3 hA3
      go_wp2_with fail
      refine hdo.mono ?_
      clear hdo c3
      rintro e w4 ⟨rfl, b4⟩
      have hA4 := LB.below hA3 b4
      have hR4 : LZ (w.heap.size + 1) w4 := LB.below hR3 b4
      have B4 := B3.trans (b4.mono B3.size)
      clear hA3 hR3 B3 b4
      go_wp2_with (guard_target =~ Go.wpList _ _ _ ({ dst := none, op := Go.Op.store _ _ _, type := _, pos := _, after := _, guard := none } :: _) _ _; refine st1 (k := 3) (v := .string ⟨#[]⟩) rfl rfl hA4 (by show _ < 8; decide) rfl Tryz.sizeOf9 ?_)
      intro w5 hb5 g5
      have hA5 : LZ w2.heap.size w5 := by
        have e : (lcs ⟨#[]⟩ ⟨#[]⟩ 0 ⟨#[]⟩ ⟨#[]⟩ ⟨#[]⟩ false false).setIfInBounds 3 (.string ⟨#[]⟩) = lcs ⟨#[]⟩ ⟨#[]⟩ 0 ⟨#[]⟩ ⟨#[]⟩ ⟨#[]⟩ false false := by simp [lcs]
        rw [e] at hb5
        exact hb5
      have hR5 : LZ (w.heap.size + 1) w5 := LB.grown hR4 g5 (by simp; omega)
      have B5 : Below w.heap.size w w5 := B4.grown g5 B4.size (fun k hk => by injection hk with hk; omega)
      clear hA4 hR4 B4 hb5 g5
      go_wp2_with (first | (guard_target =~ Go.wpList _ _ _ ({ dst := _, op := Go.Op.load 24 _, type := _, pos := _, after := _, guard := none } :: _) _ _; refine ld24 rfl hA5 ?_) | (guard_target =~ Go.wpList _ _ _ ({ dst := none, op := Go.Op.store 24 _ _, type := _, pos := _, after := _, guard := none } :: _) _ _; refine st24 rfl rfl hR5 ?_))
      intro wz hz gz
      have BZ : Below w.heap.size w wz := B5.grown gz B5.size (fun k hk => by injection hk with hk; omega)
      go_wp2
      exact bodyPost_ret (by simp [results, Tryz.results14, go_sem, LB.c0 hz, LB.c1 hz, LB.c2 hz, LB.c3 hz, LB.c4 hz, LB.c5 hz, LB.c6 hz, LB.c7 hz]) rfl (ParseOut.of_none HV.out BZ)
  | some q =>
    simp only [Option.getD_some, Option.isSome_some, if_true] at hpa1
    obtain ⟨hq1, hq2, hq3⟩ := HPS.out q rfl
    have hqp : q.path.length ≤ 1000000 := by
      rw [hq1] at hq3
      unfold printL restL at hq3
      simp at hq3
      omega
    clear HPS hq1 hq2 hq3
    go_wp2_with fail
    refine hpa1.mono ?_
    clear hpa1
    rintro e w2 ⟨rfl, b2⟩
    have hR2 : LZ (w.heap.size + 1) w2 := LB.below hR1 b2
    have B2 := B1.trans (b2.mono B1.size)
    have hz2 : w.heap.size + 2 ≤ w2.heap.size := by have := b2.size; omega
    have hA2 := HNEW w2
    clear hR1 B1 b2 HNEW
    go_wp2_with (guard_target =~ Go.wpList _ _ _ ({ dst := none, op := Go.Op.store 24 _ _, type := _, pos := _, after := _, guard := none } :: _) _ _; refine st24 rfl rfl hA2 ?_)
    intro w3 hA3 g3
    have hR3 : LZ (w.heap.size + 1) w3 := LB.grown (LB.alloc hR2 _) g3 (by simp; omega)
    have B3 : Below w.heap.size w w3 := (B2.alloc B2.size _).grown g3 (by simp; omega) (fun k hk => by injection hk with hk; omega)
    have hz3 : w2.heap.size < w3.heap.size := LB.lt hA3
    clear hA2 hR2 B2 g3
    cases D with
    | false =>
      have HV := Lib.hid (show RES = some q by rw [HRS.out]; rfl)
      go_wp2_with (first | (guard_target =~ Go.wpList _ _ _ ({ dst := _, op := Go.Op.load 24 _, type := _, pos := _, after := _, guard := none } :: _) _ _; refine ld24 rfl hA3 ?_) | (guard_target =~ Go.wpList _ _ _ ({ dst := none, op := Go.Op.store 24 _ _, type := _, pos := _, after := _, guard := none } :: _) _ _; refine st24 rfl rfl hR3 ?_))
      intro wz hz gz
      have BZ : Below w.heap.size w wz := B3.grown gz B3.size (fun k hk => by injection hk with hk; omega)
      go_wp2
      exact bodyPost_ret (by simp [results, Tryz.results14, go_sem, LB.c0 hz, LB.c1 hz, LB.c2 hz, LB.c3 hz, LB.c4 hz, LB.c5 hz, LB.c6 hz, LB.c7 hz]) rfl (ParseOut.of_some HV.out BZ)
    | true =>
      have HV := Lib.hid (show RES = some { q with path := dotsL q.path } by rw [HRS.out]; rfl)
      have hdo := dots_any (bs q.path) w3 (hE.below B3) (by rw [bs_size]; exact hqp)
      rw [bs_list] at hdo
      have c3 := LB.c3 hA3
      go_wp2_with fail
      refine hdo.mono ?_
      clear hdo c3
      rintro e w4 ⟨rfl, b4⟩
      have hA4 := LB.below hA3 b4
      have hR4 : LZ (w.heap.size + 1) w4 := LB.below hR3 b4
      have B4 := B3.trans (b4.mono B3.size)
      clear hA3 hR3 B3 b4
      go_wp2_with (guard_target =~ Go.wpList _ _ _ ({ dst := none, op := Go.Op.store _ _ _, type := _, pos := _, after := _, guard := none } :: _) _ _; refine st1 (k := 3) (v := .string (bs (dotsL q.path))) rfl rfl hA4 (by show _ < 8; decide) rfl Tryz.sizeOf9 ?_)
      intro w5 hb5 g5
      have hA5 : LB w2.heap.size (bs q.scheme) (bs q.host) q.port (bs (dotsL q.path)) (bs q.query) (bs q.frag) q.hasQ q.hasF w5 := by
        have e : (lcs (bs q.scheme) (bs q.host) q.port (bs q.path) (bs q.query) (bs q.frag) q.hasQ q.hasF).setIfInBounds 3 (.string (bs (dotsL q.path))) = lcs (bs q.scheme) (bs q.host) q.port (bs (dotsL q.path)) (bs q.query) (bs q.frag) q.hasQ q.hasF := by simp [lcs]
        rw [e] at hb5
        exact hb5
      have hR5 : LZ (w.heap.size + 1) w5 := LB.grown hR4 g5 (by simp; omega)
      have B5 : Below w.heap.size w w5 := B4.grown g5 B4.size (fun k hk => by injection hk with hk; omega)
      clear hA4 hR4 B4 hb5 g5
      go_wp2_with (first | (guard_target =~ Go.wpList _ _ _ ({ dst := _, op := Go.Op.load 24 _, type := _, pos := _, after := _, guard := none } :: _) _ _; refine ld24 rfl hA5 ?_) | (guard_target =~ Go.wpList _ _ _ ({ dst := none, op := Go.Op.store 24 _ _, type := _, pos := _, after := _, guard := none } :: _) _ _; refine st24 rfl rfl hR5 ?_))
      intro wz hz gz
      have BZ : Below w.heap.size w wz := B5.grown gz B5.size (fun k hk => by injection hk with hk; omega)
      go_wp2
      exact bodyPost_ret (by simp [results, Tryz.results14, go_sem, LB.c0 hz, LB.c1 hz, LB.c2 hz, LB.c3 hz, LB.c4 hz, LB.c5 hz, LB.c6 hz, LB.c7 hz]) rfl (ParseOut.of_some HV.out BZ)
end Go.Proofs.YtlgggibdgfdmhaaGreatDoor
