/-
  Of the proof that disks answer every script as the document says: the parts VA VB VD VE VF VG. No conditions.
-/
import Derived.Test.YtbodkjifpmencaaGreatY01
namespace Go.Proofs.YtbodkjifpmencaaGreat
open Go.RowKit
open Go.Lib

set_option maxRecDepth 100000 in
theorem inPart_any (c : UInt8) (w : World) : Calls Tryz.prog 69 #[.int .u8 (c.toNat : Int)] w fun e w' => e = .returned (.bool (inPartB c)) ∧ w = w' := by
  obtain ⟨n, hn⟩ : ∃ n, c.toNat = n := ⟨_, rfl⟩
  have hb : n < 256 := by rw [← hn]; exact c.toNat_lt
  have HP : Hid (inPartB c = decide (97 ≤ n ∧ n ≤ 122 ∨ 65 ≤ n ∧ n ≤ 90 ∨ 48 ≤ n ∧ n ≤ 57 ∨ n = 45 ∨ n = 95 ∨ n = 46)) := by unfold inPartB; rw [hn]; exact Lib.hid rfl
  rw [hn]
  clear hn
  go_enter Tryz.func69, Tryz.ntmps69
  go_wp2
  all_goals
    go_ret
    refine ⟨ret_bool ?_, rfl⟩
    rw [HP.out]
    rw [Bool.eq_iff_iff]
    simp
    try omega
theorem isPart_no {l : Bs} (h : l.length < 1 ∨ 80 < l.length ∨ l = [46] ∨ l = [46, 46]) : isPartL l = false := by
  unfold isPartL
  rcases h with h | h | h | h
  · have : ¬ 1 ≤ l.length := by omega
    simp [this]
  · have : ¬ l.length ≤ 80 := by omega
    simp [this]
  · subst h; rfl
  · subst h; rfl
theorem isPart_yes {l : Bs} (h1 : 1 ≤ l.length) (h2 : l.length ≤ 80) (h3 : l ≠ [46]) (h4 : l ≠ [46, 46]) : isPartL l = l.all inPartB := by
  unfold isPartL
  have e3 : (l == [46]) = false := by simpa using h3
  have e4 : (l == [46, 46]) = false := by simpa using h4
  simp [h1, h2, e3, e4]
theorem all_take_no {l : Bs} {k : Nat} {c : UInt8} (hk : l[k]? = some c) (hc : inPartB c = false) : l.all inPartB = false := by
  rw [List.all_eq_false]
  exact ⟨c, List.mem_of_getElem? hk, by simp [hc]⟩
set_option maxRecDepth 100000 in
theorem isPart_any (s : ByteArray) (w : World) : Calls Tryz.prog 47 #[.string s] w fun e w' => e = .returned (.bool (isPartL s.data.toList)) ∧ Below w.heap.size w w' := by
  have hl := size_list s
  by_cases h0 : s.size < 1
  · have HP := Lib.hid (isPart_no (l := s.data.toList) (Or.inl (by omega)))
    clear hl
    go_enter Tryz.func47, Tryz.ntmps47
    go_wp2
    go_ret
    exact ⟨ret_bool HP.out.symm, Below.refl _ _⟩
  by_cases h1 : 80 < s.size
  · have HP := Lib.hid (isPart_no (l := s.data.toList) (Or.inr (Or.inl (by omega))))
    clear hl
    go_enter Tryz.func47, Tryz.ntmps47
    go_wp2
    go_ret
    exact ⟨ret_bool HP.out.symm, Below.refl _ _⟩
  have g0 : 1 ≤ s.size := by omega
  have g1 : s.size ≤ 80 := by omega
  clear h0 h1
  by_cases h2 : s.data.toList = [46]
  · have HP := Lib.hid (isPart_no (l := s.data.toList) (Or.inr (Or.inr (Or.inl h2))))
    have e2 : (s.toList == ([46] : List UInt8)) = true := by rw [eqS, h2]; rfl
    clear hl h2
    go_enter Tryz.func47, Tryz.ntmps47
    go_wp2
    go_ret
    exact ⟨ret_bool HP.out.symm, Below.refl _ _⟩
  by_cases h3 : s.data.toList = [46, 46]
  · have HP := Lib.hid (isPart_no (l := s.data.toList) (Or.inr (Or.inr (Or.inr h3))))
    have e3 : (s.toList == ([46, 46] : List UInt8)) = true := by rw [eqS, h3]; rfl
    have e2 : (s.toList == ([46] : List UInt8)) = false := by rw [eqS, h3]; rfl
    clear hl h2 h3
    go_enter Tryz.func47, Tryz.ntmps47
    go_wp2
    go_ret
    exact ⟨ret_bool HP.out.symm, Below.refl _ _⟩
  have e2 : (s.toList == ([46] : List UInt8)) = false := by rw [eqS]; simpa using h2
  have e3 : (s.toList == ([46, 46] : List UInt8)) = false := by rw [eqS]; simpa using h3
  have HP := Lib.hid (isPart_yes (by omega) (by omega) h2 h3)
  have HL := Lib.hid hl
  clear h2 h3 hl
  go_enter Tryz.func47, Tryz.ntmps47
  go_wp2
  clear e2 e3
  go_loopw [22] (fun i wr => ∃ k : Nat, k ≤ s.size ∧ i = .int .i64 k ∧ Hid ((s.data.toList.take k).all inPartB = true) ∧ Below w.heap.size w wr) (fun i _ => s.size - (RowKit.intOf i).toNat)
  case atStart => exact ⟨0, Nat.zero_le _, rfl, Lib.hid (by simp), Below.refl _ _⟩
  case round =>
    obtain ⟨k, hk, rfl, hA, hb⟩ := hrel
    by_cases hlt : k < s.size
    · have HT := Lib.hid (take_snoc s k hlt)
      have HG : Hid (s.data.toList[k]? = some s[k]) := Lib.hid (by rw [List.getElem?_eq_getElem (by rw [← HL.out]; exact hlt)]; rfl)
      obtain ⟨c, hc⟩ : ∃ c, s[k] = c := ⟨_, rfl⟩
      have HC := Lib.hid hc
      clear hc
      cases hp : inPartB s[k]
      · have HB := Lib.hid hp
        have hcall := inPart_any s[k]
        rw [hp] at hcall
        have HCA := Lib.hid hcall
        clear hp hcall
        go_wp2_with (go_at_call 69; (with_reducible refine (HCA.out _).mono ?_); rintro e w' ⟨rfl, rfl⟩)
        go_ret
        exact ⟨ret_bool (by rw [HP.out]; exact (all_take_no HG.out HB.out).symm), hb⟩
      · have HB := Lib.hid hp
        have hcall := inPart_any s[k]
        rw [hp] at hcall
        have HCA := Lib.hid hcall
        clear hp hcall
        go_wp2_with (go_at_call 69; (with_reducible refine (HCA.out _).mono ?_); rintro e w' ⟨rfl, rfl⟩)
        go_roundw
        case rel => exact ⟨k + 1, by omega, by go_num, Lib.hid (by rw [HT.out, List.all_append, hA.out]; simp [HB.out]), hb⟩
        case measure => simp [RowKit.intOf]; omega
    · obtain rfl : k = s.size := by omega
      go_wp2
      go_ret
      refine ⟨ret_bool ?_, hb⟩
      have := hA.out
      rw [List.take_of_length_le (by rw [← HL.out]; omega)] at this
      rw [HP.out, this]
end Go.Proofs.YtbodkjifpmencaaGreat
namespace Go.Proofs.YtbodkjifpmencaaGreat
open Go.RowKit
open Go.Lib

theorem take_extract (s : ByteArray) (k : Nat) : (s.extract 0 k).data.toList = s.data.toList.take k := by
  simp [ByteArray.data_extract]
theorem drop_extract (s : ByteArray) (k : Nat) : (s.extract k s.size).data.toList = s.data.toList.drop k := by
  rw [ByteArray.data_extract]
  simp [List.take_of_length_le]
theorem index_at {s : ByteArray} {c : UInt8} {i : Nat} (h : Lib.indexByte s.data.toList c = i) : i < s.size ∧ s.data.toList = s.data.toList.take i ++ c :: s.data.toList.drop (i + 1) ∧ c ∉ s.data.toList.take i := by
  obtain ⟨h1, h2⟩ := Lib.indexByte_some h
  have hl : i < s.data.toList.length := (List.getElem?_eq_some_iff.1 h1).1
  have hg : s.data.toList[i] = c := (List.getElem?_eq_some_iff.1 h1).2
  refine ⟨by rw [size_list]; exact hl, ?_, ?_⟩
  · have := List.drop_eq_getElem_cons hl
    rw [hg] at this
    rw [← this, List.take_append_drop]
  · intro hm
    obtain ⟨k, hk, he⟩ := List.getElem_of_mem hm
    rw [List.length_take] at hk
    rw [List.getElem_take] at he
    exact h2 k (by omega) (by rw [List.getElem?_eq_getElem (by omega), he])
theorem index_not {l : List UInt8} {c : UInt8} (h : Lib.indexByte l c = -1) : c ∉ l := by
  intro hm
  obtain ⟨k, hk, he⟩ := List.getElem_of_mem hm
  exact Lib.indexByte_none h k (by rw [List.getElem?_eq_getElem hk, he])
theorem index_or (l : List UInt8) (c : UInt8) : Lib.indexByte l c = -1 ∨ ∃ i : Nat, Lib.indexByte l c = i := by
  have := Lib.indexByte_ge l c
  by_cases h : Lib.indexByte l c = -1
  · exact .inl h
  · exact .inr ⟨(Lib.indexByte l c).toNat, by omega⟩
theorem bs_ext {s : ByteArray} {l : Bs} (h : s.data.toList = l) : s = bs l := by rw [← h, bs_of]
/-- What a cut leaves. -/
def CutOut (a b : ByteArray) (ok : Bool) (w : World) (e : Ending) (w' : World) : Prop := e = .returned (.tuple #[.string a, .string b, .bool ok]) ∧ Below w.heap.size w w'
set_option maxRecDepth 100000 in
theorem scut_yes (s : ByteArray) (c : UInt8) (i : Nat) (w : World) (hs : s.size ≤ 281474976710656) (hi : Lib.indexByte s.data.toList c = i) : Calls Tryz.prog 77 #[.string s, .string ⟨#[c]⟩] w (CutOut (s.extract 0 i) (s.extract (i + 1) s.size) true w) := by
  have hc := libIndex1 s c w
  rw [hi] at hc
  have hlt := (index_at hi).1
  clear hi
  go_enter Tryz.func77, Tryz.ntmps77
  go_wp2_with fail
  refine hc.mono ?_
  clear hc
  rintro e w' ⟨rfl, rfl⟩
  have e1 : IntKind.i64.wrap ((i : Int) + 1) = (i : Int) + 1 := IntWalk.i64_in _ (by omega)
  have e2 : ((i : Int) + 1).toNat = i + 1 := by omega
  have e3 : (0 : Int) ≤ (i : Int) + 1 := by omega
  have e4 : i + 1 ≤ s.size := by omega
  have e5 : i ≤ s.size := by omega
  go_wp2
  go_quiet (fail)
  clear e1 e2
  go_wp2
  go_ret3
  exact ⟨rfl, below_drewN (Below.refl _ _) _⟩
set_option maxRecDepth 100000 in
theorem scut_no (s : ByteArray) (c : UInt8) (w : World) (hi : Lib.indexByte s.data.toList c = -1) : Calls Tryz.prog 77 #[.string s, .string ⟨#[c]⟩] w (CutOut s ⟨#[]⟩ false w) := by
  have hc := libIndex1 s c w
  rw [hi] at hc
  clear hi
  go_enter Tryz.func77, Tryz.ntmps77
  go_wp2_with fail
  refine hc.mono ?_
  clear hc
  rintro e w' ⟨rfl, rfl⟩
  go_wp2
  go_ret3
  exact ⟨rfl, Below.refl _ _⟩
set_option maxRecDepth 100000 in
theorem cut_go (s : ByteArray) (c : UInt8) (a b : ByteArray) (ok : Bool) (w : World) (hc : Calls Tryz.prog 77 #[.string s, .string ⟨#[c]⟩] w (CutOut a b ok w)) : Calls Tryz.prog 63 #[.string s, .string ⟨#[c]⟩] w (CutOut a b ok w) := by
  go_enter Tryz.func63, Tryz.ntmps63
  go_wp2_with fail
  refine hc.mono ?_
  clear hc
  rintro e w' ⟨rfl, hb⟩
  go_wp2
  go_ret3
  exact ⟨rfl, hb⟩
theorem cut_yes (s : ByteArray) (a b : Bs) (w : World) (hs : s.size ≤ 281474976710656) (h : cutS s.data.toList = some (a, b)) : Calls Tryz.prog 63 #[.string s, .string ⟨#[47]⟩] w (CutOut (bs a) (bs b) true w) := by
  rcases index_or s.data.toList 47 with hi | ⟨i, hi⟩
  · rw [cutS_no _ (index_not hi)] at h; cases h
  · obtain ⟨h1, h2, h3⟩ := index_at hi
    rw [h2, cutS_yes _ _ h3] at h
    simp at h
    have e1 : s.extract 0 i = bs a := bs_ext (by rw [take_extract, h.1])
    have e2 : s.extract (i + 1) s.size = bs b := bs_ext (by rw [drop_extract, h.2])
    have := scut_yes s 47 i w hs hi
    rw [e1, e2] at this
    exact cut_go s 47 _ _ _ w this
theorem cut_no (s : ByteArray) (w : World) (h : cutS s.data.toList = none) : Calls Tryz.prog 63 #[.string s, .string ⟨#[47]⟩] w (CutOut s ⟨#[]⟩ false w) := by
  rcases index_or s.data.toList 47 with hi | ⟨i, hi⟩
  · exact cut_go s 47 _ _ _ w (scut_no s 47 w hi)
  · obtain ⟨h1, h2, h3⟩ := index_at hi
    rw [h2, cutS_yes _ _ h3] at h
    cases h
theorem dir_none {l : Bs} (h : cutS l = none) : dirL l = [] := by unfold dirL; rw [h]
theorem dir_some {l a b : Bs} (h : cutS l = some (a, b)) : dirL l = a := by unfold dirL; rw [h]
theorem right_none {l : Bs} (h : cutS l = none) : rightL l = isPartL l := by unfold rightL; rw [h]
theorem right_some {l a b : Bs} (h : cutS l = some (a, b)) : rightL l = (isPartL a && isPartL b) := by unfold rightL; rw [h]
set_option maxRecDepth 100000 in
theorem directory_any (s : ByteArray) (w : World) (hs : s.size ≤ 281474976710656) : Calls Tryz.prog 38 #[.string s] w fun e w' => e = .returned (.string (bs (dirL s.data.toList))) ∧ Below w.heap.size w w' := by
  rcases hc : cutS s.data.toList with _ | ⟨a, b⟩
  · have h := cut_no s w hc
    have HD := Lib.hid (dir_none hc)
    clear hc
    go_enter Tryz.func38, Tryz.ntmps38
    go_wp2_with fail
    refine h.mono ?_
    clear h
    rintro e w' ⟨rfl, hb⟩
    go_wp2
    go_ret
    exact ⟨by rw [HD.out]; rfl, hb⟩
  · have h := cut_yes s a b w hs hc
    have HD := Lib.hid (dir_some hc)
    clear hc
    go_enter Tryz.func38, Tryz.ntmps38
    go_wp2_with fail
    refine h.mono ?_
    clear h
    rintro e w' ⟨rfl, hb⟩
    go_wp2
    go_ret
    exact ⟨by rw [HD.out]; rfl, hb⟩
theorem isPart_is (s : ByteArray) (x : Bool) (h : isPartL s.data.toList = x) (w : World) : Calls Tryz.prog 47 #[.string s] w fun e w' => e = .returned (.bool x) ∧ Below w.heap.size w w' := by
  rw [← h]; exact isPart_any s w
set_option maxRecDepth 100000 in
theorem right_any (s : ByteArray) (w : World) (hs : s.size ≤ 281474976710656) : Calls Tryz.prog 43 #[.string s] w fun e w' => e = .returned (.bool (rightL s.data.toList)) ∧ Below w.heap.size w w' := by
  rcases hc : cutS s.data.toList with _ | ⟨a, b⟩
  · have h := cut_no s w hc
    have HD := Lib.hid (right_none hc)
    clear hc
    obtain ⟨x, hx⟩ : ∃ x, isPartL s.data.toList = x := ⟨_, rfl⟩
    have HP := Lib.hid (isPart_is s x hx)
    have HX := Lib.hid hx
    clear hx
    cases x
    all_goals
      go_enter Tryz.func43, Tryz.ntmps43
      go_wp2_with fail
      refine h.mono ?_
      rintro e w' ⟨rfl, hb⟩
      go_wp2_with (go_at_call 47; (with_reducible refine (HP.out _).mono ?_); rintro e w2 ⟨rfl, hb2⟩)
      go_ret
      exact ⟨by rw [HD.out, HX.out]; rfl, hb.trans (hb2.mono hb.size)⟩
  · have h := cut_yes s a b w hs hc
    have HD := Lib.hid (right_some hc)
    clear hc
    obtain ⟨x, hx⟩ : ∃ x, isPartL a = x := ⟨_, rfl⟩
    obtain ⟨y, hy⟩ : ∃ y, isPartL b = y := ⟨_, rfl⟩
    have HP := Lib.hid (isPart_is (bs a) x (by rw [bs_list]; exact hx))
    have HQ := Lib.hid (isPart_is (bs b) y (by rw [bs_list]; exact hy))
    have HX := Lib.hid hx
    have HY := Lib.hid hy
    clear hx hy
    generalize bs a = A at *
    generalize bs b = B at *
    cases x
    all_goals
      go_enter Tryz.func43, Tryz.ntmps43
      go_wp2_with fail
      refine h.mono ?_
      rintro e w' ⟨rfl, hb⟩
      go_wp2_with (first
        | (go_at_call 47; (with_reducible refine (HP.out _).mono ?_); rintro e w2 ⟨rfl, hb2⟩)
        | (go_at_call 47; (with_reducible refine (HQ.out _).mono ?_); rintro e w3 ⟨rfl, hb3⟩))
      go_ret
      first
        | exact ⟨by rw [HD.out, HX.out]; rfl, hb.trans (hb2.mono hb.size)⟩
        | exact ⟨by rw [HD.out, HX.out, HY.out]; rfl, (hb.trans (hb2.mono hb.size)).trans (hb3.mono (Nat.le_trans hb.size hb2.size))⟩
end Go.Proofs.YtbodkjifpmencaaGreat
namespace Go.Proofs.YtbodkjifpmencaaGreat
open Go.RowKit
open Go.Lib

abbrev TD : TypeId := 60
abbrev TB : TypeId := 73
abbrev TC : TypeId := 112
/-- Where a disk's parts lie. -/
structure Lay where
  d : Nat
  mn : Nat
  mq : Nat
  mc : Nat
  ml : Nat
  bl : Nat → Nat
  bv : Nat → Value
  cv : Bs → Value
def ptr (b : Nat) : Value := .pointer (some ⟨b, 0, none⟩)
def ptrO (L : Lay) (o : Option Nat) : Value := match o with | none => .pointer none | some k => ptr (L.bl k)
def dcells (L : Lay) (q : Q) : Array Value := #[.int .i64 q.room, .map (some L.mn), .map (some L.mq), .map (some L.mc), .map (some L.ml), .int .i64 (q.bodies.length : Int), .bool q.told, .int .i64 q.ahead, .bool q.once]
def bcells (k : Nat) (v : Value) (kept : Nat) : Array Value := #[.int .i64 (k : Int), v, .int .i64 (kept : Int)]
def entN (L : Lay) (n : Nm) : Ents := n.map fun x => (Lit.string x.1, ptr (L.bl x.2))
def entL (L : Lay) (l : List (Nat × Unit)) : Ents := l.map fun x => (Lit.int .i64 (x.1 : Int), ptr (L.bl x.1))
def entC (L : Lay) (c : List (Bs × List QC)) : Ents := c.map fun x => (Lit.string x.1, L.cv x.1)
def cellsC (L : Lay) (cs : List QC) : List Value := cs.flatMap fun c => [.string (bs c.frm), .string (bs c.to), ptrO L c.body]
def upd {α β : Type} [DecidableEq α] (f : α → β) (k : α) (v : β) : α → β := fun j => if j = k then v else f j
theorem upd_same {α β : Type} [DecidableEq α] (f : α → β) (k : α) (v : β) : upd f k v k = v := by simp [upd]
theorem upd_ne {α β : Type} [DecidableEq α] (f : α → β) {k j : α} (v : β) (h : j ≠ k) : upd f k v j = f j := by simp [upd, h]

/-- This is the disk q, laid so. -/
structure QD (L : Lay) (q : Q) (w : World) : Prop where
  disk : Blk L.d (.cells (dcells L q) TD (0, 0)) w
  names : MapIs Tryz.prog 9 L.mn (entN L q.names) w
  kept : MapIs Tryz.prog 9 L.mq (entN L q.kept) w
  changes : MapIs Tryz.prog 9 L.mc (entC L q.changes) w
  loose : MapIs Tryz.prog 3 L.ml (entL L q.loose) w
  bod : ∀ k, k < q.bodies.length → Blk (L.bl k) (.cells (bcells k (L.bv k) (qbody q k).kept) TB (0, 0)) w
  row : ∀ k, k < q.bodies.length → OwnB w 0 (L.bv k) (qbody q k).now
  chg : ∀ x ∈ q.changes, w.ownsRow 0 TC 3 (L.cv x.1) x.2.length (cellsC L x.2)
  nk : L.mn ≠ L.mq
  nc : L.mn ≠ L.mc
  nl : L.mn ≠ L.ml
  kc : L.mq ≠ L.mc
  kl : L.mq ≠ L.ml
  cl : L.mc ≠ L.ml
  rows : ∀ k j b, k < q.bodies.length → j < q.bodies.length → k ≠ j → (L.bv k).ownBlock = some b → (L.bv j).ownBlock ≠ some b
  chs : ∀ x y b, x ∈ q.changes → y ∈ q.changes → x.1 ≠ y.1 → (L.cv x.1).ownBlock = some b → (L.cv y.1).ownBlock ≠ some b
/-- The blocks that are the disk's own. -/
def foot (L : Lay) (q : Q) (b : Nat) : Prop :=
  b = L.d ∨ b = L.mn ∨ b = L.mq ∨ b = L.mc ∨ b = L.ml ∨ (∃ k, k < q.bodies.length ∧ (b = L.bl k ∨ (L.bv k).ownBlock = some b)) ∨ ∃ x, x ∈ q.changes ∧ (L.cv x.1).ownBlock = some b

def kindOf : Obj → Option TypeId
  | .cells _ t _ => some t
  | _ => none
def kindAt (w : World) (b : Nat) : Option (Option TypeId) := (w.heap[b]?).map kindOf
theorem Blk.kind {b : Nat} {o : Obj} {w : World} (h : Blk b o w) : kindAt w b = some (kindOf o) := by unfold kindAt; rw [h]; rfl
theorem MapIs.kind {P : Program} {k : TypeId} {b : Nat} {E : Ents} {w : World} (h : MapIs P k b E w) : kindAt w b = some none := by
  obtain ⟨_, es, ⟨ms, clock, hb, _⟩, _⟩ := h
  unfold kindAt; rw [hb]; rfl
theorem row_kind {w : World} {base size n : Nat} {e : TypeId} {v : Value} {xs : List Value} (h : w.ownsRow base e size v n xs) {b : Nat} (hb : v.ownBlock = some b) : kindAt w b = some (some e) := by
  obtain ⟨cur, h⟩ := own_kind h hb
  exact h.kind
theorem ne_kind {w : World} {a b : Nat} {x y : Option TypeId} (ha : kindAt w a = some x) (hb : kindAt w b = some y) (h : x ≠ y) : a ≠ b := fun e => by
  rw [e, hb] at ha; exact h (Option.some.inj ha).symm
theorem MapIs.off {P : Program} {k : TypeId} {b : Nat} {E : Ents} {w w' : World} {F : Nat → Prop} (h : MapIs P k b E w) (ho : Off F w w') (hF : ¬ F b) : MapIs P k b E w' := by
  have hl := h.lt
  obtain ⟨h1, es, ⟨ms, clock, hb, rest⟩, h3⟩ := h
  exact ⟨h1, es, ⟨ms, clock, (ho.block b hl hF).trans hb, rest⟩, h3⟩
section
variable {L : Lay} {q : Q} {w w' : World}
theorem QD.foot_lt (H : QD L q w) {b : Nat} (h : foot L q b) : b < w.heap.size := by
  rcases h with rfl | rfl | rfl | rfl | rfl | ⟨k, hk, rfl | h⟩ | ⟨x, hx, h⟩
  · exact H.disk.lt
  · exact H.names.lt
  · exact H.kept.lt
  · exact H.changes.lt
  · exact H.loose.lt
  · exact (H.bod k hk).lt
  · exact ((H.row k hk).lt b h).2
  · exact ((H.chg x hx).lt b h).2
theorem QD.kd (H : QD L q w) : kindAt w L.d = some (some TD) := H.disk.kind
theorem QD.kb (H : QD L q w) {k : Nat} (hk : k < q.bodies.length) : kindAt w (L.bl k) = some (some TB) := (H.bod k hk).kind
theorem QD.kr (H : QD L q w) {k b : Nat} (hk : k < q.bodies.length) (h : (L.bv k).ownBlock = some b) : kindAt w b = some (some 5) := row_kind (H.row k hk) h
theorem QD.kg (H : QD L q w) {x : Bs × List QC} {b : Nat} (hx : x ∈ q.changes) (h : (L.cv x.1).ownBlock = some b) : kindAt w b = some (some TC) := row_kind (H.chg x hx) h
theorem QD.bl_inj (H : QD L q w) {k j : Nat} (hk : k < q.bodies.length) (hj : j < q.bodies.length) (hne : k ≠ j) : L.bl k ≠ L.bl j := fun e => by
  have h1 := H.bod k hk
  have h2 := H.bod j hj
  rw [e] at h1
  unfold Blk at h1 h2
  rw [h2] at h1
  simp [bcells] at h1
  omega
/-- Nothing of the disk's own has turned. -/
theorem QD.off {F : Nat → Prop} (H : QD L q w) (ho : Off F w w') (hF : ∀ b, F b → ¬ foot L q b) : QD L q w' where
  disk := ho.blk H.disk (fun h => hF _ h (.inl rfl))
  names := H.names.off ho (fun h => hF _ h (.inr (.inl rfl)))
  kept := H.kept.off ho (fun h => hF _ h (.inr (.inr (.inl rfl))))
  changes := H.changes.off ho (fun h => hF _ h (.inr (.inr (.inr (.inl rfl)))))
  loose := H.loose.off ho (fun h => hF _ h (.inr (.inr (.inr (.inr (.inl rfl))))))
  bod := fun k hk => ho.blk (H.bod k hk) (fun h => hF _ h (.inr (.inr (.inr (.inr (.inr (.inl ⟨k, hk, .inl rfl⟩)))))))
  row := fun k hk => (H.row k hk).off ho (fun _b hb h => hF _ h (.inr (.inr (.inr (.inr (.inr (.inl ⟨k, hk, .inr hb⟩)))))))
  chg := fun x hx => own_off (H.chg x hx) ho (fun _b hb h => hF _ h (.inr (.inr (.inr (.inr (.inr (.inr ⟨x, hx, hb⟩)))))))
  nk := H.nk
  nc := H.nc
  nl := H.nl
  kc := H.kc
  kl := H.kl
  cl := H.cl
  rows := H.rows
  chs := H.chs
theorem QD.below (H : QD L q w) (hb : Below w.heap.size w w') : QD L q w' := H.off (Off.of_below hb) (fun _ h => h.elim)
theorem QD.drew (H : QD L q w) : QD L q w.drew := H.off (F := fun _ => False) ⟨rfl, rfl, rfl, Nat.le_refl _, fun _ _ _ => rfl⟩ (fun _ h => h.elim)
/-- The disk's own block has turned: what it counts and whether it fails. -/
theorem QD.setD (H : QD L q w) (g : w.grownBy w' (some L.d)) (q' : Q) (h1 : q'.bodies = q.bodies) (h2 : q'.names = q.names) (h3 : q'.kept = q.kept) (h4 : q'.changes = q.changes) (h5 : q'.loose = q.loose) (hd : Blk L.d (.cells (dcells L q') TD (0, 0)) w') : QD L q' w' := by
  have ho : Off (fun b => some L.d = some b) w w' := Off.of_grown g
  have hq : ∀ k, qbody q' k = qbody q k := fun k => by unfold qbody; rw [h1]
  refine ⟨hd, ?_, ?_, ?_, ?_, ?_, ?_, ?_, H.nk, H.nc, H.nl, H.kc, H.kl, H.cl, ?_, ?_⟩
  · rw [h2]; exact H.names.off ho (fun e => ne_kind H.kd H.names.kind (by simp) (Option.some.inj e))
  · rw [h3]; exact H.kept.off ho (fun e => ne_kind H.kd H.kept.kind (by simp) (Option.some.inj e))
  · rw [h4]; exact H.changes.off ho (fun e => ne_kind H.kd H.changes.kind (by simp) (Option.some.inj e))
  · rw [h5]; exact H.loose.off ho (fun e => ne_kind H.kd H.loose.kind (by simp) (Option.some.inj e))
  · intro k hk; rw [h1] at hk; rw [hq]; exact ho.blk (H.bod k hk) (fun e => ne_kind H.kd (H.kb hk) (by decide) (Option.some.inj e))
  · intro k hk; rw [h1] at hk; rw [hq]; exact (H.row k hk).off ho (fun b hb e => ne_kind H.kd (H.kr hk hb) (by decide) (Option.some.inj e))
  · intro x hx; rw [h4] at hx; exact own_off (H.chg x hx) ho (fun b hb e => ne_kind H.kd (H.kg hx hb) (by decide) (Option.some.inj e))
  · intro k j b hk hj; rw [h1] at hk hj; exact H.rows k j b hk hj
  · intro x y b hx hy; rw [h4] at hx hy; exact H.chs x y b hx hy
/-- What is told of the names' map. -/
theorem Off.drew {F : Nat → Prop} (h : Off F w w') : Off F w w'.drew := ⟨h.os, h.tape, h.output, h.size, h.block⟩
theorem QD.setN (H : QD L q w) (g : w.grownBy w' (some L.mn)) (n : Nm) (hm : MapIs Tryz.prog 9 L.mn (entN L n) w') : QD L { q with names := n } w' := by
  have ho : Off (fun b => some L.mn = some b) w w' := Off.of_grown g
  refine ⟨ho.blk H.disk (fun e => ne_kind H.names.kind H.kd (by simp) (Option.some.inj e)), hm, H.kept.off ho (fun e => H.nk (Option.some.inj e)), H.changes.off ho (fun e => H.nc (Option.some.inj e)), H.loose.off ho (fun e => H.nl (Option.some.inj e)), ?_, ?_, ?_, H.nk, H.nc, H.nl, H.kc, H.kl, H.cl, H.rows, H.chs⟩
  · exact fun k hk => ho.blk (H.bod k hk) (fun e => ne_kind H.names.kind (H.kb hk) (by simp) (Option.some.inj e))
  · exact fun k hk => (H.row k hk).off ho (fun b hb e => ne_kind H.names.kind (H.kr hk hb) (by simp) (Option.some.inj e))
  · exact fun x hx => own_off (H.chg x hx) ho (fun b hb e => ne_kind H.names.kind (H.kg hx hb) (by simp) (Option.some.inj e))
theorem QD.setK (H : QD L q w) (g : w.grownBy w' (some L.mq)) (n : Nm) (hm : MapIs Tryz.prog 9 L.mq (entN L n) w') : QD L { q with kept := n } w' := by
  have ho : Off (fun b => some L.mq = some b) w w' := Off.of_grown g
  refine ⟨ho.blk H.disk (fun e => ne_kind H.kept.kind H.kd (by simp) (Option.some.inj e)), H.names.off ho (fun e => H.nk (Option.some.inj e).symm), hm, H.changes.off ho (fun e => H.kc (Option.some.inj e)), H.loose.off ho (fun e => H.kl (Option.some.inj e)), ?_, ?_, ?_, H.nk, H.nc, H.nl, H.kc, H.kl, H.cl, H.rows, H.chs⟩
  · exact fun k hk => ho.blk (H.bod k hk) (fun e => ne_kind H.kept.kind (H.kb hk) (by simp) (Option.some.inj e))
  · exact fun k hk => (H.row k hk).off ho (fun b hb e => ne_kind H.kept.kind (H.kr hk hb) (by simp) (Option.some.inj e))
  · exact fun x hx => own_off (H.chg x hx) ho (fun b hb e => ne_kind H.kept.kind (H.kg hx hb) (by simp) (Option.some.inj e))
theorem QD.setL (H : QD L q w) (g : w.grownBy w' (some L.ml)) (n : List (Nat × Unit)) (hm : MapIs Tryz.prog 3 L.ml (entL L n) w') : QD L { q with loose := n } w' := by
  have ho : Off (fun b => some L.ml = some b) w w' := Off.of_grown g
  refine ⟨ho.blk H.disk (fun e => ne_kind H.loose.kind H.kd (by simp) (Option.some.inj e)), H.names.off ho (fun e => H.nl (Option.some.inj e).symm), H.kept.off ho (fun e => H.kl (Option.some.inj e).symm), H.changes.off ho (fun e => H.cl (Option.some.inj e).symm), hm, ?_, ?_, ?_, H.nk, H.nc, H.nl, H.kc, H.kl, H.cl, H.rows, H.chs⟩
  · exact fun k hk => ho.blk (H.bod k hk) (fun e => ne_kind H.loose.kind (H.kb hk) (by simp) (Option.some.inj e))
  · exact fun k hk => (H.row k hk).off ho (fun b hb e => ne_kind H.loose.kind (H.kr hk hb) (by simp) (Option.some.inj e))
  · exact fun x hx => own_off (H.chg x hx) ho (fun b hb e => ne_kind H.loose.kind (H.kg hx hb) (by simp) (Option.some.inj e))
theorem entN_upd (L : Lay) (k : Nat) (v : Value) (n : Nm) : entN { L with bv := upd L.bv k v } n = entN L n := rfl
theorem qbody_set (q : Q) (k j : Nat) (x : QB) (hk : k < q.bodies.length) : qbody { q with bodies := q.bodies.set k x } j = if j = k then x else qbody q j := by
  unfold qbody
  simp only [List.getD, List.getElem?_set]
  by_cases h : k = j
  · subst h; simp [hk]
  · simp [h, Ne.symm h]
/-- One body has turned: its bytes, how many of them are kept. -/
theorem QD.setB (H : QD L q w) {k : Nat} (hk : k < q.bodies.length) (ho : Off (fun b => b = L.bl k ∨ (L.bv k).ownBlock = some b) w w') (v : Value) (now : Bs) (kept : Nat)
    (hb : Blk (L.bl k) (.cells (bcells k v kept) TB (0, 0)) w') (hr : OwnB w' 0 v now) (hl : ∀ b, v.ownBlock = some b → (L.bv k).ownBlock = some b ∨ w.heap.size ≤ b) :
    QD { L with bv := upd L.bv k v } { q with bodies := q.bodies.set k ⟨now, kept⟩ } w' := by
  have nb : ∀ {b x}, kindAt w b = some x → x ≠ some TB → x ≠ some 5 → ¬ (b = L.bl k ∨ (L.bv k).ownBlock = some b) := fun hx h1 h2 e => by
    rcases e with e | e
    · exact ne_kind hx (H.kb hk) h1 e
    · exact ne_kind hx (H.kr hk e) h2 rfl
  refine ⟨?_, H.names.off ho (nb H.names.kind (by simp) (by simp)), H.kept.off ho (nb H.kept.kind (by simp) (by simp)), H.changes.off ho (nb H.changes.kind (by simp) (by simp)), H.loose.off ho (nb H.loose.kind (by simp) (by simp)), ?_, ?_, ?_, H.nk, H.nc, H.nl, H.kc, H.kl, H.cl, ?_, H.chs⟩
  · have e : dcells { L with bv := upd L.bv k v } { q with bodies := q.bodies.set k ⟨now, kept⟩ } = dcells L q := by simp [dcells]
    rw [e]
    exact ho.blk H.disk (nb H.kd (by decide) (by decide))
  · intro j hj
    have hj' : j < q.bodies.length := by simpa using hj
    rw [qbody_set q k j _ hk]
    by_cases e : j = k
    · subst e; simp only [if_true, upd_same]; exact hb
    · simp only [if_neg e, upd_ne _ _ e]
      refine ho.blk (H.bod j hj') (fun h => ?_)
      rcases h with h | h
      · exact H.bl_inj hj' hk e h
      · exact ne_kind (H.kb hj') (H.kr hk h) (by decide) rfl
  · intro j hj
    have hj' : j < q.bodies.length := by simpa using hj
    rw [qbody_set q k j _ hk]
    by_cases e : j = k
    · subst e; simp only [if_true, upd_same]; exact hr
    · simp only [if_neg e, upd_ne _ _ e]
      refine (H.row j hj').off ho (fun b hb h => ?_)
      rcases h with h | h
      · exact ne_kind (H.kr hj' hb) (H.kb hk) (by decide) h
      · exact H.rows j k b hj' hk e hb h
  · exact fun x hx => own_off (H.chg x hx) ho (fun b hb => nb (H.kg hx hb) (by decide) (by decide))
  · intro i j b hi hj hne h1 h2
    have hi' : i < q.bodies.length := by simpa using hi
    have hj' : j < q.bodies.length := by simpa using hj
    by_cases e : i = k
    · subst e
      simp only [upd_same] at h1
      rw [show ({ L with bv := upd L.bv i v } : Lay).bv j = L.bv j from upd_ne _ _ (Ne.symm hne)] at h2
      rcases hl b h1 with h | h
      · exact H.rows i j b hi' hj' hne h h2
      · exact absurd ((H.row j hj').lt b h2).2 (Nat.not_lt.2 h)
    · rw [show ({ L with bv := upd L.bv k v } : Lay).bv i = L.bv i from upd_ne _ _ e] at h1
      by_cases f : j = k
      · subst f
        simp only [upd_same] at h2
        rcases hl b h2 with h | h
        · exact H.rows i j b hi' hj' hne h1 h
        · exact absurd ((H.row i hi').lt b h1).2 (Nat.not_lt.2 h)
      · rw [show ({ L with bv := upd L.bv k v } : Lay).bv j = L.bv j from upd_ne _ _ f] at h2
        exact H.rows i j b hi' hj' hne h1 h2
end
/-- One call's step. -/
structure Step (L : Lay) (q : Q) (w : World) (L' : Lay) (q' : Q) (w' : World) : Prop where
  d : L'.d = L.d
  to : QD L' q' w'
  off : Off (foot L q) w w'
  own : ∀ b, foot L' q' b → foot L q b ∨ w.heap.size ≤ b
theorem Step.refl {L : Lay} {q : Q} {w : World} (H : QD L q w) : Step L q w L q w := ⟨rfl, H, Off.refl _ _, fun _ h => .inl h⟩
theorem Step.trans {L1 L2 L3 : Lay} {q1 q2 q3 : Q} {w1 w2 w3 : World} (h : Step L1 q1 w1 L2 q2 w2) (k : Step L2 q2 w2 L3 q3 w3) : Step L1 q1 w1 L3 q3 w3 :=
  ⟨k.d.trans h.d, k.to, h.off.trans k.off h.own, fun b hb => (k.own b hb).elim (h.own b) (fun hs => .inr (Nat.le_trans h.off.size hs))⟩
theorem Step.below {L : Lay} {q : Q} {w w' : World} (H : QD L q w) (hb : Below w.heap.size w w') : Step L q w L q w' :=
  ⟨rfl, H.below hb, (Off.of_below hb).mono (fun _ h => h.elim), fun _ h => .inl h⟩
end Go.Proofs.YtbodkjifpmencaaGreat
namespace Go.Proofs.YtbodkjifpmencaaGreat
open Go.RowKit
open Go.Lib
open Go.Maps (Keyed string_keyed int_keyed keyOf_int_mk)
open Go.ChangeMaps

theorem KS : Keyed Tryz.prog 9 := string_keyed Tryz.underlying9
theorem KI : Keyed Tryz.prog 3 := int_keyed Tryz.underlying3
theorem sk_str (a b : Bs) : (Lit.string a).sameKey (.string b) = decide (a = b) := by
  by_cases h : a = b
  · subst h; simp [Lit.sameKey]
  · simp [Lit.sameKey, h]
theorem sk_int (a b : Nat) : (Lit.int .i64 (a : Int)).sameKey (.int .i64 (b : Int)) = decide (a = b) := by
  by_cases h : a = b
  · subst h; simp [Lit.sameKey]
  · have : ¬ (a : Int) = (b : Int) := by omega
    rw [Maps.sameKey_ne (fun e => this (by injection e))]
    simp [h]
section
variable {β : Type} (f : β → Value)
theorem lookE_str (l : List (Bs × β)) (p : Bs) : lookE (l.map fun x => (Lit.string x.1, f x.2)) (.string p) = (look l p).map f := by
  unfold lookE look
  rw [List.find?_map]
  have : ((fun p_1 : Lit × Value => p_1.1.sameKey (.string p)) ∘ fun x : Bs × β => (Lit.string x.1, f x.2)) = fun x => decide (x.1 = p) := by
    funext x; exact sk_str _ _
  rw [this]
  cases l.find? (fun x => decide (x.1 = p)) <;> rfl
theorem dropE_str (l : List (Bs × β)) (p : Bs) : dropE (l.map fun x => (Lit.string x.1, f x.2)) (.string p) = (dropN l p).map fun x => (Lit.string x.1, f x.2) := by
  unfold dropE dropN
  rw [List.filter_map]
  congr 1
  refine List.filter_congr (fun x _ => ?_)
  show (!(Lit.string x.1).sameKey (.string p)) = _
  rw [sk_str]; simp
theorem putE_str (l : List (Bs × β)) (p : Bs) (k : β) : putE (l.map fun x => (Lit.string x.1, f x.2)) (.string p) (f k) = (putN l p k).map fun x => (Lit.string x.1, f x.2) := by
  unfold putE putN
  rw [dropE_str, List.map_append]; rfl
end
theorem look_entN (L : Lay) (n : Nm) (p : Bs) : lookE (entN L n) (.string p) = (look n p).map fun k => ptr (L.bl k) := lookE_str (fun k => ptr (L.bl k)) n p
theorem drop_entN (L : Lay) (n : Nm) (p : Bs) : dropE (entN L n) (.string p) = entN L (dropN n p) := dropE_str (fun k => ptr (L.bl k)) n p
theorem put_entN (L : Lay) (n : Nm) (p : Bs) (k : Nat) : putE (entN L n) (.string p) (ptr (L.bl k)) = entN L (putN n p k) := putE_str (fun k => ptr (L.bl k)) n p k
theorem look_entN_get (L : Lay) (n : Nm) (p : Bs) : (lookE (entN L n) (.string p)).getD (.pointer none) = ptrO L (look n p) := by
  rw [look_entN]; cases look n p <;> rfl
theorem drop_entL (L : Lay) (l : List (Nat × Unit)) (k : Nat) : dropE (entL L l) (.int .i64 (k : Int)) = entL L (dropN l k) := by
  unfold dropE dropN entL
  rw [List.filter_map]
  congr 1
  refine List.filter_congr (fun x _ => ?_)
  show (!(Lit.int .i64 (x.1 : Int)).sameKey (.int .i64 (k : Int))) = _
  rw [sk_int]; simp
theorem put_entL (L : Lay) (l : List (Nat × Unit)) (k : Nat) : putE (entL L l) (.int .i64 (k : Int)) (ptr (L.bl k)) = entL L (putN l k ()) := by
  unfold putE
  rw [drop_entL]
  unfold putN entL
  rw [List.map_append]; rfl
theorem look_entL (L : Lay) (l : List (Nat × Unit)) (k : Nat) (h : k ∈ l.map (·.1)) : lookE (entL L l) (.int .i64 (k : Int)) = some (ptr (L.bl k)) := by
  obtain ⟨x, hx, rfl⟩ := List.mem_map.1 h
  unfold lookE entL
  rw [List.find?_map]
  have : ((fun p : Lit × Value => p.1.sameKey (.int .i64 (x.1 : Int))) ∘ fun y : Nat × Unit => (Lit.int .i64 (y.1 : Int), ptr (L.bl y.1))) = fun y => decide (y.1 = x.1) := by
    funext y; exact sk_int _ _
  rw [this]
  cases hf : l.find? (fun y => decide (y.1 = x.1)) with
  | none => rw [List.find?_eq_none] at hf; exact absurd (hf x hx) (by simp)
  | some y =>
    have := List.find?_some hf
    simp at this
    simp [this]
theorem key_str (s : ByteArray) (h : s.size ≤ maxLen) : keyOf Tryz.prog 9 (.string s) = some (.string s.data.toList) := Go.WideMaps.keyOf_string_mk Tryz.underlying9 h
theorem key_bs (l : Bs) (h : l.length ≤ 281474976710656) : keyOf Tryz.prog 9 (.string (bs l)) = some (.string l) := by
  have := key_str (bs l) (by rw [bs_size]; unfold maxLen; omega)
  rwa [bs_list] at this
theorem key_nat (k : Nat) (h : k ≤ 1048576) : keyOf Tryz.prog 3 (.int .i64 (k : Int)) = some (.int .i64 (k : Int)) := keyOf_int_mk Tryz.underlying3 (WalkArith.wf_i64 (by omega))

/-! ### What a disk's cells hold -/
section
variable {L : Lay} {q : Q} {w : World}
theorem QD.c0 (H : QD L q w) : w.cell? ⟨L.d, 0, none⟩ = some (.int .i64 q.room) := H.disk.cell 0
theorem QD.c1 (H : QD L q w) : w.cell? ⟨L.d, 1, none⟩ = some (.map (some L.mn)) := H.disk.cell 1
theorem QD.c2 (H : QD L q w) : w.cell? ⟨L.d, 2, none⟩ = some (.map (some L.mq)) := H.disk.cell 2
theorem QD.c3 (H : QD L q w) : w.cell? ⟨L.d, 3, none⟩ = some (.map (some L.mc)) := H.disk.cell 3
theorem QD.c4 (H : QD L q w) : w.cell? ⟨L.d, 4, none⟩ = some (.map (some L.ml)) := H.disk.cell 4
theorem QD.c5 (H : QD L q w) : w.cell? ⟨L.d, 5, none⟩ = some (.int .i64 (q.bodies.length : Int)) := H.disk.cell 5
theorem QD.c6 (H : QD L q w) : w.cell? ⟨L.d, 6, none⟩ = some (.bool q.told) := H.disk.cell 6
theorem QD.c7 (H : QD L q w) : w.cell? ⟨L.d, 7, none⟩ = some (.int .i64 q.ahead) := H.disk.cell 7
theorem QD.c8 (H : QD L q w) : w.cell? ⟨L.d, 8, none⟩ = some (.bool q.once) := H.disk.cell 8
theorem QD.free (H : QD L q w) (j : Nat) : w.frozen? ⟨L.d, j, none⟩ = false := H.disk.free j
theorem QD.b0 (H : QD L q w) {k : Nat} (hk : k < q.bodies.length) : w.cell? ⟨L.bl k, 0, none⟩ = some (.int .i64 (k : Int)) := (H.bod k hk).cell 0
theorem QD.b1 (H : QD L q w) {k : Nat} (hk : k < q.bodies.length) : w.cell? ⟨L.bl k, 1, none⟩ = some (L.bv k) := (H.bod k hk).cell 1
theorem QD.b2 (H : QD L q w) {k : Nat} (hk : k < q.bodies.length) : w.cell? ⟨L.bl k, 2, none⟩ = some (.int .i64 ((qbody q k).kept : Int)) := (H.bod k hk).cell 2
end
/-! ### size, rest -/
set_option maxRecDepth 100000 in
theorem size_nil (w : World) : Calls Tryz.prog 37 #[.pointer none] w fun e w' => e = .returned (.int .i64 0) ∧ w = w' := by
  go_enter Tryz.func37, Tryz.ntmps37
  go_wp2
  go_ret
  exact ⟨rfl, rfl⟩
set_option maxRecDepth 100000 in
theorem size_at (b : Nat) (A : Option Addr) (n c : Nat) (w : World) (hc : w.cell? ⟨b, 1, none⟩ = some (.slice A n c)) : Calls Tryz.prog 37 #[ptr b] w fun e w' => e = .returned (.int .i64 n) ∧ w = w' := by
  unfold ptr
  go_enter Tryz.func37, Tryz.ntmps37
  go_wp2
  go_ret
  exact ⟨rfl, rfl⟩
theorem size_any {L : Lay} {q : Q} {w : World} (H : QD L q w) (o : Option Nat) (ho : ∀ k, o = some k → k < q.bodies.length) : Calls Tryz.prog 37 #[ptrO L o] w fun e w' => e = .returned (.int .i64 (sizeO q o : Int)) ∧ w = w' := by
  cases o with
  | none => exact size_nil w
  | some k =>
    have hk := ho k rfl
    obtain ⟨A, c, hv, _, _, _⟩ := (H.row k hk).read
    exact size_at (L.bl k) A (qbody q k).now.length c w (by rw [H.b1 hk, hv])
theorem emod_cases (n b : Int) (hb : 0 < b) : n % b = if n.tmod b < 0 then n.tmod b + b else n.tmod b := by
  have h1 := Int.tmod_eq_emod (a := n) (b := b)
  have h2 := Int.emod_nonneg n (b := b) (by omega)
  have h3 := Int.emod_lt_of_pos n hb
  have h4 : (b.natAbs : Int) = b := by omega
  split at h1
  · rw [h1]; split <;> omega
  · rename_i h
    have h5 : n % b ≠ 0 := fun e => h (.inr (Int.dvd_of_emod_eq_zero e))
    rw [h1, h4]; split <;> omega
set_option maxRecDepth 100000 in
theorem rest_any (n b : Int) (w : World) (hb : 0 < b) (hb2 : b ≤ 9223372036854775807) (_h0 : -9223372036854775808 ≤ n) (_h1 : n ≤ 9223372036854775807) : Calls Tryz.prog 51 #[.int .i64 n, .int .i64 b] w fun e w' => e = .returned (.int .i64 (n % b)) ∧ w = w' := by
  have HE := Lib.hid (emod_cases n b hb)
  go_enter Tryz.func51, Tryz.ntmps51
  go_wp2
  · rename_i h
    have h2 := Int.emod_nonneg n (b := b) (by omega)
    have h3 := Int.emod_lt_of_pos n hb
    have e := HE.out
    rw [if_pos h] at e
    go_ret
    exact ⟨ret_int (by rw [IntWalk.wrap64_in _ (by omega), e]), rfl⟩
  · rename_i h
    have e := HE.out
    rw [if_neg (by omega)] at e
    go_ret
    exact ⟨ret_int e.symm, rfl⟩
/-! ### A call that fails -/
theorem Step.setD {L : Lay} {q : Q} {w w' : World} (H : QD L q w) (g : w.grownBy w' (some L.d)) (q' : Q) (h1 : q'.bodies = q.bodies) (h2 : q'.names = q.names) (h3 : q'.kept = q.kept) (h4 : q'.changes = q.changes) (h5 : q'.loose = q.loose) (hd : Blk L.d (.cells (dcells L q') TD (0, 0)) w') : Step L q w L q' w' :=
  ⟨rfl, H.setD g q' h1 h2 h3 h4 h5 hd, (Off.of_grown g).mono (fun _ h => .inl (Option.some.inj h).symm), fun b hb => .inl (by unfold foot at *; rw [h1, h4] at hb; exact hb)⟩
set_option maxRecDepth 100000 in
theorem strikes_any {L : Lay} {q : Q} {w : World} (H : QD L q w) (a0 : -9223372036854775808 ≤ q.ahead) (a1 : q.ahead ≤ 9223372036854775807) : Calls Tryz.prog 67 #[.pointer (some ⟨L.d, 6, none⟩)] w fun e w' => e = .returned (.bool (strikeQ q).1) ∧ Step L q w L (strikeQ q).2 w' := by
  have c6 := H.c6
  have c7 := H.c7
  have c8 := H.c8
  have f6 := H.free 6
  have f7 := H.free 7
  cases ht : q.told
  · rw [ht] at c6
    have HS : Hid (strikeQ q = (false, q)) := Lib.hid (by unfold strikeQ; rw [ht]; rfl)
    have HH := Lib.hid H
    clear H ht
    go_enter Tryz.func67, Tryz.ntmps67
    go_wp2
    go_ret
    rw [HS.out]
    exact ⟨rfl, Step.refl HH.out⟩
  · rw [ht] at c6
    by_cases hp : 0 < q.ahead
    · have HS : Hid (strikeQ q = (false, { q with ahead := q.ahead - 1 })) := Lib.hid (by unfold strikeQ; rw [ht, if_pos rfl, if_pos hp])
      have HH := Lib.hid H
      have HT := Lib.hid ht
      clear H ht
      go_enter Tryz.func67, Tryz.ntmps67
      go_wp2
      go_ret
      rw [HS.out]
      exact ⟨rfl, Step.setD HH.out (grown_set _ _ _ _) { q with ahead := q.ahead - 1 } rfl rfl rfl rfl rfl (HH.out.disk.set 7 (.int .i64 (q.ahead - 1)))⟩
    · have HS : Hid (strikeQ q = (true, { q with told := !q.once })) := Lib.hid (by unfold strikeQ; rw [ht, if_pos rfl, if_neg hp])
      have HH := Lib.hid H
      clear H ht
      go_enter Tryz.func67, Tryz.ntmps67
      go_wp2
      go_ret
      rw [HS.out]
      exact ⟨rfl, Step.setD HH.out (grown_set _ _ _ _) { q with told := !q.once } rfl rfl rfl rfl rfl (HH.out.disk.set 6 (.bool (!q.once)))⟩
theorem begin_fst (q : Q) (x : Bool) (h : (strikeQ q).1 = x) : beginQ q true = (if x then 62 else 0, (strikeQ q).2) := by
  unfold beginQ
  rw [if_pos rfl]
  revert h
  generalize strikeQ q = s
  obtain ⟨a, b⟩ := s
  intro h
  subst h
  cases a <;> rfl
set_option maxRecDepth 100000 in
theorem begin_nil (r : Bool) (w : World) : Calls Tryz.prog 42 #[.pointer none, .bool r] w fun e w' => e = .returned (.int .i64 1) ∧ w = w' := by
  go_enter Tryz.func42, Tryz.ntmps42
  go_wp2
  go_ret
  exact ⟨rfl, rfl⟩
set_option maxRecDepth 100000 in
theorem begin_any {L : Lay} {q : Q} {w : World} (H : QD L q w) (r : Bool) (a0 : -9223372036854775808 ≤ q.ahead) (a1 : q.ahead ≤ 9223372036854775807) : Calls Tryz.prog 42 #[ptr L.d, .bool r] w fun e w' => e = .returned (.int .i64 (beginQ q r).1) ∧ Step L q w L (beginQ q r).2 w' := by
  unfold ptr
  cases r
  · have HS : Hid (beginQ q false = (2, q)) := Lib.hid rfl
    have HH := Lib.hid H
    clear H
    go_enter Tryz.func42, Tryz.ntmps42
    go_wp2
    go_ret
    rw [HS.out]
    exact ⟨rfl, Step.refl HH.out⟩
  · have hs := strikes_any H a0 a1
    obtain ⟨x, hx⟩ : ∃ x, (strikeQ q).1 = x := ⟨_, rfl⟩
    have HS := Lib.hid (begin_fst q x hx)
    rw [hx] at hs
    clear hx H
    cases x
    all_goals
      go_enter Tryz.func42, Tryz.ntmps42
      go_wp2_with (go_at_call 67; (with_reducible refine hs.mono ?_); rintro e w' ⟨rfl, st⟩)
      go_ret
      rw [HS.out]
      exact ⟨rfl, st⟩
end Go.Proofs.YtbodkjifpmencaaGreat
namespace Go.Proofs.YtbodkjifpmencaaGreat
open Go.RowKit
open Go.Lib
open Go.Maps (keyOf_str)

def total (q : Q) (ss : List Bs) : Nat := (ss.map fun p => sizeO q (look q.names p)).sum
theorem total_snoc (q : Q) (ss : List Bs) (p : Bs) : total q (ss ++ [p]) = total q ss + sizeO q (look q.names p) := by simp [total]
theorem total_le {N : Nat} {q : Q} (h : Small N q) (ss : List Bs) : total q ss ≤ ss.length * N := sum_le _ N ss (fun _p _ => h.size _)
theorem total_perm {q : Q} {ss : List Bs} (h : ss.Perm (q.names.map (·.1))) (hd : (q.names.map (·.1)).Nodup) : total q ss = usedQ q := by
  rw [← used_sum hd]
  exact (h.map _).sum_nat
theorem keys_entN (L : Lay) (n : Nm) : ((entN L n).map fun p => strOf p.1) = n.map (·.1) := by
  unfold entN
  rw [List.map_map]; rfl
/-- What an element of the map of names is. -/
theorem elem_names {L : Lay} {n : Nm} {es : List (Lit × DataW Value)} {x : Bs} {c : Value} (hp : es.Perm (datE (entN L n))) (hd : (entN L n).Pairwise (fun p q => p.1 ≠ q.1)) (hat : ∀ zd : DataW Value, (DataW.map es).atKey (.string x) zd = .held c) :
    ∃ k, look n x = some k ∧ c = ptr (L.bl k) := by
  have h1 := hat (.held (.bool true))
  have h2 := hat (.held (.bool false))
  rw [at_of_perm hp hd, look_entN] at h1 h2
  cases hl : look n x with
  | none => rw [hl] at h1 h2; simp at h1 h2; rw [← h1] at h2; cases h2
  | some k => rw [hl] at h1; simp at h1; exact ⟨k, rfl, h1.symm⟩
theorem hR_inv {c : Value} {yd : DataW Value} {yp : List MemPlace} (h : hR c = some (yd, yp)) : yd = .held c := by
  unfold hR at h; simp at h; exact h.1.symm
set_option maxRecDepth 100000 in
set_option maxHeartbeats 1000000 in
theorem used_any {L : Lay} {q : Q} {w : World} (H : QD L q w) {N : Nat} (hS : Small N q) (hN : N ≤ 1048576) : Calls Tryz.prog 12 #[ptr L.d] w fun e w' => e = .returned (.int .i64 (usedQ q : Int)) ∧ Below w.heap.size w w' := by
  obtain ⟨hd, es, hown, hperm⟩ := H.names
  have hkp : ∃ D, D = DataW.map es ∧ (strKeys D).Perm (q.names.map (·.1)) ∧ Maps.size D = q.names.length := by
    refine ⟨_, rfl, ?_, ?_⟩
    · have := hperm.map fun p => strOf p.1
      unfold datE at this
      rw [List.map_map] at this
      rw [← keys_entN L q.names]
      exact this
    · rw [Maps.size_eq, hperm.length_eq, length_datE]; simp [entN]
  obtain ⟨D, hD, hkeys, hsz⟩ := hkp
  have hat0 : ∀ x c, (∀ zd : DataW Value, D.atKey (.string x) zd = .held c) → ∃ k, look q.names x = some k ∧ c = ptr (L.bl k) := fun x c h => by rw [hD] at h; exact elem_names hperm hd h
  rw [← hD] at hown
  have hKS := hown.isMap
  generalize (entN L q.names).length = n at hown
  have hmn := hown.lt
  have c1 := H.c1
  have HH := Lib.hid H
  have HS := Lib.hid hS
  have HAT := Lib.hid hat0
  have HKE := Lib.hid hkeys
  have HSZ := Lib.hid hsz
  have HO := Lib.hid hown
  have hnn := hS.nn
  clear hd hperm hD hkeys hat0 H hS hsz hKS
  unfold ptr
  go_enter Tryz.func12, Tryz.ntmps12
  go_wp2_with (at_range; refine wpList_range_own _ rfl _ 54 rfl 9 70 KS Tryz.underlying54 hR L.mn n D rfl hown ?_; intro w0 hrg0 hg0 hs0)
  go_frame
  clear c1 hown
  go_loopw [3] (fun u wr => ∃ (left : Lit → Bool) (cnt : Nat) (ss : List Bs), wr.ranges Tryz.prog 9 hR L.mn w.heap.size n D left cnt ∧ Collected D left ss ∧ ss.length + cnt ≤ q.names.length ∧ u = .int .i64 (total q ss : Int) ∧ Below w.heap.size w wr) (fun _ wr => wr.rangeLeft L.mn w.heap.size)
  case atStart => exact ⟨_, _, [], hrg0, Collected.start D, by simp [HSZ.out], rfl, (Below.refl _ _).grown hg0 (Nat.le_refl _) (fun j hj => by cases hj)⟩
  case round =>
    clear hrg0 hg0 hs0
    obtain ⟨left, cnt, ss, hrg, hC, hle, rfl, hb⟩ := hrel
    go_wp2_with (at_next; refine wpList_next_ranges _ rfl _ rfl 9 KS hR encStr (fun v : Value => v) (fun key kl hk => by obtain ⟨x, hx, _⟩ := keyOf_str Tryz.underlying9 hk; exact ⟨x, hx⟩) (fun v y _ => ⟨v, rfl⟩) L.mn w.heap.size n _ _ _ rfl hrg ?_ ?_)
    · intro hc0 hl0
      go_wp2
      go_ret
      have hp := hC.perm HO.out KS Tryz.underlying9 hl0
      exact ⟨ret_int (by rw [total_perm (hp.trans HKE.out) HS.out.dn]), hb⟩
    · intro x c kl yd yp w2 cnt2 hkey hlk hv hat hrg2 hlt hg2 hs2 hen
      obtain ⟨x', ex, rfl, _⟩ := keyOf_str Tryz.underlying9 hkey
      obtain rfl : x = x' := encStr_inj ex
      obtain rfl := hR_inv hv
      obtain ⟨k, hk, rfl⟩ := HAT.out x c hat
      have hb2 : Below w.heap.size w w2 := hb.grown hg2 hb.size (fun j hj => by cases hj; exact Nat.le_refl _)
      have hsz : Calls Tryz.prog 37 #[ptr (L.bl k)] w2 fun e w' => e = .returned (.int .i64 (sizeO q (some k) : Int)) ∧ w2 = w' := size_any (HH.out.below hb2) (some k) (fun j hj => by cases hj; exact HS.out.name hk)
      have htl := total_le HS.out ss
      have hss := HS.out.size (some k)
      have hmul := Nat.mul_le_mul (Nat.le_trans (Nat.le_trans (Nat.le_add_right _ cnt) hle) (Nat.le_trans hnn hN)) hN
      have HK := Lib.hid hk
      have HC := Lib.hid (hC.step hlk hat)
      have HST := Lib.hid (total_snoc q ss x)
      clear hs2 hk hv hat hkey hlk hC
      obtain ⟨S, hSe⟩ : ∃ S, sizeO q (some k) = S := ⟨_, rfl⟩
      rw [hSe] at hsz hss
      have HSE := Lib.hid hSe
      clear hSe
      obtain ⟨T, hTe⟩ : ∃ T, total q ss = T := ⟨_, rfl⟩
      have HTE := Lib.hid hTe
      rw [hTe] at htl ⊢
      clear hTe
      go_wp2_with (go_at_call 37; (with_reducible refine hsz.mono ?_); rintro e w3 ⟨rfl, rfl⟩)
      go_roundw
      case rel => exact ⟨_, cnt2, ss ++ [x], hrg2, HC.out, by simp; omega, by rw [HST.out, HK.out, HSE.out, HTE.out]; go_num, hb2⟩
      case measure => rw [hrg2.left_eq, hrg.left_eq]; exact hlt
set_option maxRecDepth 100000 in
theorem hasRoom_any {L : Lay} {q : Q} {w : World} (H : QD L q w) {N : Nat} (hS : Small N q) (hN : N ≤ 1048576) (more : Int) (_h0 : -1048576 ≤ more) (_h1 : more ≤ 1048576) : Calls Tryz.prog 44 #[ptr L.d, .int .i64 more] w fun e w' => e = .returned (.bool (hasRoomQ q more)) ∧ Below w.heap.size w w' := by
  have hu := fun W (hb : Below w.heap.size w W) => used_any (H.below hb) hS hN
  have hU : usedQ q ≤ 1099511627776 := by
    have := hS.used
    have := Nat.mul_le_mul hN hN
    omega
  have r0 := hS.r0
  have r1 := hS.r1
  have HQ : Hid (hasRoomQ q more = decide (more ≤ q.room - (usedQ q : Int))) := Lib.hid rfl
  have hall : ∀ W, Kept w W → (Kept w W ∧ W.cell? ⟨L.d, 0, none⟩ = some (.int .i64 q.room)) := fun W hb => ⟨hb, (H.below hb).c0⟩
  have HA := Lib.hid hall
  have HU := Lib.hid (fun W (hb : Kept w W) => hu W hb)
  have hk : Kept w w := Below.refl _ _
  have c0 := H.c0
  clear H hS hu hall
  generalize usedQ q = U at *
  generalize q.room = R at *
  have e1 : IntKind.i64.wrap (R - (U : Int)) = R - (U : Int) := IntWalk.i64_in _ (by omega)
  unfold ptr at *
  go_enter Tryz.func44, Tryz.ntmps44
  go_wp2
  go_region_held3 (fun W => Kept w W ∧ W.cell? ⟨L.d, 0, none⟩ = some (.int .i64 R))
    (first | assumption | exact HA.out _ (by assumption) | exact HA.out _ (Kept.drew (by assumption)) | exact HA.out _ (Kept.go (And.left (by assumption)) (by assumption)) | exact HA.out _ (Kept.go (by assumption) (by assumption)))
    ((go_at_call 12; (with_reducible refine (HU.out _ (And.left (by assumption))).mono ?_); rintro e w' ⟨rfl, b⟩))
  all_goals
    go_wp2
    go_ret
    refine ⟨ret_bool ?_, ?_⟩
    · rw [HQ.out]
    · first | exact And.left (by assumption) | exact Kept.go (And.left (by assumption)) (by assumption)
end Go.Proofs.YtbodkjifpmencaaGreat
namespace Go.Proofs.YtbodkjifpmencaaGreat
open Go.RowKit
open Go.Lib

def aggC (f t : ByteArray) (v : Value) : Value := .agg #[.string f, .string t, v]
theorem dropE_len (E : Ents) (k : Lit) : (dropE E k).length ≤ E.length := List.length_filter_le _ _
theorem zeroP (w : World) : (zeroValue 70).run Tryz.prog w = .ok (.pointer none) w := by kernel_rfl
set_option maxRecDepth 100000 in
theorem apply_none (f t : ByteArray) (m : Nat) (E : Ents) (w : World) (hM : MapIs Tryz.prog 9 m E w) (hf : f.size ≤ maxLen) (ht : t.size ≤ maxLen) :
    Calls Tryz.prog 68 #[aggC f t (.pointer none), .map (some m)] w fun e w' => e = .returned ((lookE E (.string t.data.toList)).getD (.pointer none)) ∧ MapIs Tryz.prog 9 m (dropE E (.string f.data.toList)) w' ∧ Off (fun b => b = m) w w' := by
  obtain ⟨w1, hw1⟩ : ∃ W, w.alloc (.cells #[.string f, .string t, (.pointer none)] TC) = W := ⟨_, rfl⟩
  have hB : Blk w.heap.size (.cells #[.string f, .string t, (.pointer none)] TC (0, 0)) w1 := by rw [← hw1]; exact Blk.new _ _
  have hg : w.grownBy w1 none := by rw [← hw1]; exact grown_alloc _ _ _
  have hM1 : MapIs Tryz.prog 9 m E w1 := hM.kept hg (by simp)
  have hml := hM.lt
  have kf := key_str f hf
  have kt := key_str t ht
  obtain ⟨r, hr⟩ : ∃ r, (lookE E (.string t.data.toList)).getD (.pointer none) = r := ⟨_, rfl⟩
  have HR := Lib.hid hr
  have HW := Lib.hid hw1
  have hne : some w.heap.size ≠ some m := fun e => by have := Option.some.inj e; omega
  clear hM hw1 hr
  unfold aggC
  go_enter Tryz.func68, Tryz.ntmps68
  have c0 := hB.cell 0
  have c1 := hB.cell 1
  go_wp2_with (first
    | (at_lookup; rw [HW.out]; refine wpList_lookup_map _ rfl _ _ 54 rfl 9 70 KS Tryz.underlying54 (.pointer none) (zeroP _) m E rfl hM1 _ _ rfl kt r HR.out ?_)
    | (at_delete; refine wpList_delete_map _ rfl _ _ 54 9 rfl 70 KS Tryz.underlying54 m E rfl hM1 _ _ rfl kf ?_; intro w2 hM2 hg2; have hB2 := hB.grown hg2 hne; clear c0 c1; have d1 := hB2.cell 1; have d2 := hB2.cell 2))
  go_ret
  exact ⟨by rw [HR.out]; rfl, hM2, (Off.of_grown hg).mono (fun _ h => by cases h) |>.trans (Off.of_grown hg2) (fun x h => .inl (Option.some.inj h).symm)⟩
set_option maxRecDepth 100000 in
theorem apply_some (f t : ByteArray) (b : Nat) (m : Nat) (E : Ents) (w : World) (hM : MapIs Tryz.prog 9 m E w) (hE : E.length < maxLen) (hf : f.size ≤ maxLen) (ht : t.size ≤ maxLen) :
    Calls Tryz.prog 68 #[aggC f t (.pointer (some ⟨b, 0, none⟩)), .map (some m)] w fun e w' => e = .returned ((lookE E (.string t.data.toList)).getD (.pointer none)) ∧ MapIs Tryz.prog 9 m (putE (dropE E (.string f.data.toList)) (.string t.data.toList) (.pointer (some ⟨b, 0, none⟩))) w' ∧ Off (fun b => b = m) w w' := by
  obtain ⟨w1, hw1⟩ : ∃ W, w.alloc (.cells #[.string f, .string t, (.pointer (some ⟨b, 0, none⟩))] TC) = W := ⟨_, rfl⟩
  have hB : Blk w.heap.size (.cells #[.string f, .string t, (.pointer (some ⟨b, 0, none⟩))] TC (0, 0)) w1 := by rw [← hw1]; exact Blk.new _ _
  have hg : w.grownBy w1 none := by rw [← hw1]; exact grown_alloc _ _ _
  have hM1 : MapIs Tryz.prog 9 m E w1 := hM.kept hg (by simp)
  have hml := hM.lt
  have kf := key_str f hf
  have kt := key_str t ht
  obtain ⟨r, hr⟩ : ∃ r, (lookE E (.string t.data.toList)).getD (.pointer none) = r := ⟨_, rfl⟩
  have HR := Lib.hid hr
  have HW := Lib.hid hw1
  have hne : some w.heap.size ≠ some m := fun e => by have := Option.some.inj e; omega
  clear hM hw1 hr
  unfold aggC
  go_enter Tryz.func68, Tryz.ntmps68
  have c0 := hB.cell 0
  have c1 := hB.cell 1
  go_wp2_with (first
    | (at_lookup; rw [HW.out]; refine wpList_lookup_map _ rfl _ _ 54 rfl 9 70 KS Tryz.underlying54 (.pointer none) (zeroP _) m E rfl hM1 _ _ rfl kt r HR.out ?_)
    | (at_delete; refine wpList_delete_map _ rfl _ _ 54 9 rfl 70 KS Tryz.underlying54 m E rfl hM1 _ _ rfl kf ?_; intro w2 hM2 hg2; have hB2 := hB.grown hg2 hne; clear c0 c1; have d1 := hB2.cell 1; have d2 := hB2.cell 2)
    | (at_mapUpdate; refine wpList_store_map _ rfl _ _ _ 54 rfl 9 70 KS Tryz.underlying54 m _ rfl hM2 (Nat.lt_of_le_of_lt (dropE_len _ _) hE) _ _ _ rfl rfl kt ?_; intro w3 hM3 hg3))
  go_ret
  exact ⟨by rw [HR.out]; rfl, hM3, ((Off.of_grown hg).mono (fun _ h => by cases h) |>.trans (Off.of_grown hg2) (fun x h => .inl (Option.some.inj h).symm)) |>.trans (Off.of_grown hg3) (fun x h => .inl (Option.some.inj h).symm)⟩
end Go.Proofs.YtbodkjifpmencaaGreat
