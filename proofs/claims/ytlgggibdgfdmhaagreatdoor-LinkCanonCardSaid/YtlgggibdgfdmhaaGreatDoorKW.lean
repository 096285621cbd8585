/-
  Words for memory that the walks of layer 4 share: blocks, bytes of the call's own, texts, links as values. No conditions.
-/
import Derived.Test.YtlgggibdgfdmhaaGreatDoorChecked
import Derived.Test.YtlgggibdgfdmhaaGreatDoorLkS
import Derived.WalkKit
import Derived.WalkSmall
import Derived.BigCall
import Derived.Lib.Hide
import Derived.Lib.Strings
import Derived.OwnWalk
import Derived.IntWalk
import Derived.Maps.AppendAt
import Derived.Maps.Range
import Derived.Deep.QuietTactic
import Derived.BigQuiet
namespace Go.Proofs.YtlgggibdgfdmhaaGreatDoor
open Go.RowKit
open Go.Lib

theorem Tryz.infoB : (Tryz.prog.info? 5).map (fun i => (i.zero, i.size, i.bytes)) = some (some (.int .u8 0), 1, 1) := by kernel_rfl
theorem ret_int {k : IntKind} {a b : Int} (h : a = b) : Ending.returned (.int k a) = .returned (.int k b) := by rw [h]
theorem ret_bool {a b : Bool} (h : a = b) : Ending.returned (.bool a) = .returned (.bool b) := by rw [h]
theorem ret_str {a b : ByteArray} (h : a = b) : Ending.returned (.string a) = .returned (.string b) := by rw [h]
theorem size_list (s : ByteArray) : s.size = s.data.toList.length := by simp
theorem take_snoc (s : ByteArray) (k : Nat) (h : k < s.size) : s.data.toList.take (k + 1) = s.data.toList.take k ++ [s[k]] := by
  rw [List.take_succ_eq_append_getElem (by simpa using h)]; rfl
theorem drop_at (s : ByteArray) (k : Nat) (h : k < s.size) : s.data.toList.drop k = s[k] :: s.data.toList.drop (k + 1) := List.drop_eq_getElem_cons (by simpa using h)
theorem bcell {W w1 : World} (hb : Below W.heap.size W w1) : (∀ b o, b < W.heap.size → w1.cell? ⟨b, o, none⟩ = W.cell? ⟨b, o, none⟩) :=
  fun b o h => hb.cell (p := ⟨b, o, none⟩) h
theorem empty_of (s : ByteArray) (h : s.size = 0) : s = ⟨#[]⟩ := by
  apply ByteArray.ext
  exact Array.eq_empty_of_size_eq_zero h
theorem list_ne (s : ByteArray) (h : 0 < s.size) : s.toList ≠ [] := by
  rw [Lib.toList_data]
  intro e
  have := congrArg List.length e
  rw [← size_list s, List.length_nil] at this
  omega
theorem getE? (s : ByteArray) (k : Nat) (h : k < s.size) : s.data.toList[k]? = some s[k] := by
  rw [List.getElem?_eq_getElem (by simpa using h)]; rfl
theorem u8_ne (c d : UInt8) (h : c ≠ d) : c.toNat ≠ d.toNat := fun e => h (UInt8.toNat_inj.1 e)
theorem beqF (c d : UInt8) (h : c ≠ d) : ((c.toNat : Int) == (d.toNat : Int)) = false := by
  have := u8_ne c d h
  rw [beq_eq_false_iff_ne]
  omega
theorem drop_extract (s : ByteArray) (k : Nat) : (s.extract k s.size).data.toList = s.data.toList.drop k := by
  simp [ByteArray.data_extract]
  rw [List.take_of_length_le (by rw [List.length_drop]; simp)]
theorem take_extract (s : ByteArray) (k : Nat) : (s.extract 0 k).data.toList = s.data.toList.take k := by
  simp [ByteArray.data_extract]
theorem bf_below {T e : TypeId} {B b : Nat} {bs : List Value} {w w' : World} (h : Lib.IsBuilderF T e B b bs w) (hb : Below w.heap.size w w') : Lib.IsBuilderF T e B b bs w' := by
  have one : ∀ {p : Value}, Lib.BuilderAtF T e B b p bs w → Lib.BuilderAtF T e B b p bs w' := by
    intro p h
    have hlt := h.lt
    obtain ⟨h1, v, hv, hown, h2⟩ := h
    refine ⟨h1, v, ?_, ?_, h2⟩
    · rw [hb.block b hlt]; exact hv
    · refine hown.kept (row := none) ⟨hb.os, hb.tape, hb.output, hb.size, fun k hk _ => hb.block k hk⟩ (Classical.em _)
  rcases h with h | h
  · exact .inl (one h)
  · exact .inr (one h)
theorem ba_cat (l m : List UInt8) : (⟨l.toArray⟩ : ByteArray) ++ ⟨m.toArray⟩ = ⟨(l ++ m).toArray⟩ := by
  apply ByteArray.ext
  simp
theorem ba_self (s : ByteArray) : s = ⟨s.data.toList.toArray⟩ := by
  apply ByteArray.ext
  simp
theorem cat_list (a b : ByteArray) : (a ++ b).data.toList = a.data.toList ++ b.data.toList := by simp
/-- A block that lies there. -/
def Blk (b : Nat) (o : Obj) (w : World) : Prop := w.heap[b]? = some o
theorem Blk.lt {b : Nat} {o : Obj} {w : World} (h : Blk b o w) : b < w.heap.size := (Array.getElem?_eq_some_iff.1 h).1
theorem Blk.alloc {b : Nat} {o : Obj} {w : World} (h : Blk b o w) (p : Obj) : Blk b o (w.alloc p) := by
  have hl := h.lt
  unfold Blk at *
  rw [((Below.refl w.heap.size w).alloc (Nat.le_refl _) p).block b hl]
  exact h
theorem Blk.new (o : Obj) (w : World) : Blk w.heap.size o (w.alloc o) := by
  unfold Blk World.alloc
  simp
theorem Blk.drew {b : Nat} {o : Obj} {w : World} (h : Blk b o w) : Blk b o w.drew := h
theorem Blk.grown {b : Nat} {o : Obj} {w w' : World} {row : Option Nat} (h : Blk b o w) (g : w.grownBy w' row) (hne : some b ≠ row) : Blk b o w' :=
  (g.block b h.lt hne).trans h
theorem Blk.set_ne {b k : Nat} {o : Obj} {w : World} (h : Blk b o w) (hne : b ≠ k) (j : Nat) (v : Value) : Blk b o (w.setCell ⟨k, j, none⟩ v) := by
  unfold Blk World.setCell at *
  simp only [Array.getElem?_modify, if_neg hne.symm]
  exact h
theorem Blk.set {b : Nat} {c : Array Value} {t : TypeId} {f : Nat × Nat} {w : World} (h : Blk b (.cells c t f) w) (j : Nat) (v : Value) : Blk b (.cells (c.setIfInBounds j v) t f) (w.setCell ⟨b, j, none⟩ v) := by
  unfold Blk World.setCell at *
  simp only [Array.getElem?_modify, if_true, h]
  rfl
theorem Blk.cell {b : Nat} {c : Array Value} {t : TypeId} {f : Nat × Nat} {w : World} (h : Blk b (.cells c t f) w) (j : Nat) : w.cell? ⟨b, j, none⟩ = c[j]? := by
  unfold Blk at h
  simp [World.cell?, h]
theorem Blk.free {b : Nat} {c : Array Value} {t : TypeId} {w : World} (h : Blk b (.cells c t (0, 0)) w) (j : Nat) : w.frozen? ⟨b, j, none⟩ = false := by
  unfold Blk at h
  simp [World.frozen?, h]
theorem grown_set (w : World) (b j : Nat) (v : Value) : w.grownBy (w.setCell ⟨b, j, none⟩ v) (some b) := by
  refine ⟨rfl, rfl, rfl, by simp, fun k hk hne => ?_⟩
  have : k ≠ b := fun e => hne (by rw [e])
  unfold World.setCell
  simp only [Array.getElem?_modify, if_neg this.symm]
theorem grown_alloc (w : World) (o : Obj) (row : Option Nat) : w.grownBy (w.alloc o) row := by
  have h := (Below.refl w.heap.size w).alloc (Nat.le_refl _) o
  exact ⟨h.os, h.tape, h.output, h.size, fun k hk _ => h.block k hk⟩
theorem grown_below {w w' : World} (h : Below w.heap.size w w') (row : Option Nat) : w.grownBy w' row := ⟨h.os, h.tape, h.output, h.size, fun k hk _ => h.block k hk⟩

theorem own_below {w w' : World} {base e size n : Nat} {v : Value} {xs : List Value} (h : w.ownsRow base e size v n xs) (hb : Below w.heap.size w w') : w'.ownsRow base e size v n xs := by
  refine h.kept (row := none) ⟨hb.os, hb.tape, hb.output, hb.size, fun k hk _ => hb.block k hk⟩ ?_
  cases v.ownBlock with
  | none => exact .inl rfl
  | some k => exact .inr (by simp)
theorem c1_many (w : World) (cs : List Value) (t : TypeId) : ∀ j u, cs[j]? = some u → (w.alloc (.cells cs.toArray t)).cell? ((⟨w.heap.size, 0, none⟩ : Addr).add j) = some u := by
  intro j u hj
  have e : (⟨w.heap.size, 0, none⟩ : Addr).add j = ⟨w.heap.size, j, none⟩ := by unfold Addr.add; split <;> simp_all
  rw [e, World.cell?_alloc_at _ _ _ _ rfl]
  simpa using hj
theorem conv_own {w : World} {base : Nat} {v : Value} {bs : List UInt8} (h : w.ownsRow base 5 1 v bs.length (byteCells bs)) : (convert 43 9 v).run Tryz.prog w = .ok (.string ⟨bs.toArray⟩) w := by
  rcases h.2 with ⟨rfl, hn⟩ | ⟨g, cap, cur, rfl, hb, hh, hc, _, _, _⟩
  · have : bs = [] := List.eq_nil_of_length_eq_zero hn
    subst this
    exact run_convert_bytes_nil w 43 5 Tryz.underlying43 Tryz.underlying5 0 0 9 Tryz.underlying9
  · refine run_convert_bytes_back w 43 9 5 ⟨g, 0, none⟩ cap bs Tryz.underlying43 Tryz.underlying5 Tryz.underlying9 fun j hj => ?_
    have e : (⟨g, 0, none⟩ : Addr).add j = ⟨g, j, none⟩ := by unfold Addr.add; split <;> simp_all
    rw [e, h.cellAt j (by omega)]
    simp [byteCells, List.getElem?_eq_getElem hj]
/-- A text that is built. -/
def StrIs (o : ByteArray) (l : List UInt8) : Prop := o.data.toList = l
theorem StrIs.ret {o : ByteArray} {l : List UInt8} (h : StrIs o l) : Ending.returned (.string o) = .returned (.string ⟨l.toArray⟩) := by
  unfold StrIs at h; subst h; rfl
theorem StrIs.add {o p : ByteArray} {l m n : List UInt8} (h : StrIs o l) (hp : p.data.toList = m) (hn : n = l ++ m) : StrIs (o ++ p) n := by
  unfold StrIs at *
  rw [cat_list, h, hp, hn]
/-- A slice of the call's own that holds these bytes. -/
def OwnB (w : World) (base : Nat) (v : Value) (bs : List UInt8) : Prop := w.ownsRow base 5 1 v bs.length (byteCells bs)
theorem OwnB.below {w w' : World} {base : Nat} {v : Value} {bs : List UInt8} (h : OwnB w base v bs) (hb : Below w.heap.size w w') : OwnB w' base v bs := own_below h hb
theorem OwnB.conv {w : World} {base : Nat} {v : Value} {bs : List UInt8} (h : OwnB w base v bs) : (convert 43 9 v).run Tryz.prog w = .ok (.string ⟨bs.toArray⟩) w := conv_own h
theorem ownB_nil (w : World) (base : Nat) : OwnB w base (.slice none 0 0) [] := World.ownsRow_nil _ _ _ _
theorem oneCell_bytes (l : List UInt8) : ∀ u ∈ byteCells l, u.oneCell' = true := by
  intro u hu
  unfold byteCells at hu
  obtain ⟨x, _, rfl⟩ := List.mem_map.1 hu
  rfl
/-- Some bytes more behind a list of the call's own. -/
theorem appB {ops : Array Oper} {rest : List Oper} {o : Oper} {a : Act} {Q : Exit → Act → World → Prop} (hgd : o.guard = none) (s x : Operand)
    (ho : o.op = .call { callee := .builtin .append, args := #[s, x], argTypes := #[43, 43] }) (w w0 : World) (B base : Nat) (v : Value) (bs l : List UInt8) (cs : Array Value) (n : Nat) (hcs : cs = (byteCells l).toArray) (hn : l.length = n)
    (hs : a.eval s = v) (hown : OwnB w base v bs) (hx : a.eval x = .slice (some ⟨w.heap.size, 0, none⟩) n n) (hlen : bs.length + n ≤ 10000000) (hbase : base ≤ w.heap.size) (hB : B ≤ base) (hb : Below B w0 w)
    (h : ∀ v' w', OwnB w' base v' (bs ++ l) → Below B w0 w' → wpList Tryz.prog ops Q rest (a.put o.dst v') w') :
    wpList Tryz.prog ops Q (o :: rest) a (w.alloc (.cells cs 5)) := by
  subst hcs
  obtain ⟨i0, hi, hz0, hz1, hz2⟩ := info_parts Tryz.infoB
  have hl : (byteCells l).length = n := by rw [Lib.byteCells_length]; exact hn
  refine wpList_append_own _ hgd s x 43 ho base 5 i0 (.int .u8 0) 1 1 Tryz.underlying43 hi hz0 hz1 hz2 rfl (by decide) v bs.length _ hs (World.ownsRow.alloc hown _) ⟨w.heap.size, 0, none⟩ n n (byteCells l) hx (by rw [hl, Nat.mul_one]) (c1_many w (byteCells l) 5) (oneCell_bytes l) (by unfold maxLen; omega) (by omega) (by simp; omega) ?_
  intro v' w' hown' hgrow _
  refine h v' w' ?_ ?_
  · unfold OwnB
    rw [byteCells_append, List.length_append, hn]
    exact hown'
  · refine (hb.alloc (by omega) _).grown hgrow (by simp; omega) (fun k hk => ?_)
    have := (World.ownsRow.lt hown k hk).1
    omega
theorem beqT (c d : UInt8) (h : c = d) : ((c.toNat : Int) == (d.toNat : Int)) = true := by rw [h]; simp
end Go.Proofs.YtlgggibdgfdmhaaGreatDoor
