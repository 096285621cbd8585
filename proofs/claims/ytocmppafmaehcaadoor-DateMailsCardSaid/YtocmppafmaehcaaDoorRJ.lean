/-
  The walks of the document's place and words of layer 3. Conditions: as each says.
-/
import Derived.Test.YtocmppafmaehcaaDoorRC
import Derived.Test.YtocmppafmaehcaaDoorDateZ
import Derived.Test.YtocmppafmaehcaaDoorLB
namespace Go.Proofs.YtocmppafmaehcaaDoor
open Go.RowKit
open Go.Lib

theorem place_step {w : List UInt8} {ws : List (List UInt8)} {k : Nat} (hk : k < ws.length) (hne : ws[k] ≠ w) (h : placeP w ws = if placeP w (ws.drop k) < 0 then -1 else placeP w (ws.drop k) + k) : placeP w ws = if placeP w (ws.drop (k + 1)) < 0 then -1 else placeP w (ws.drop (k + 1)) + (k + 1 : Nat) := by
  rw [h, List.drop_eq_getElem_cons hk]
  have hx := place_ge w (ws.drop (k + 1))
  show (if (if ws[k] = w then (0 : Int) else if placeP w (ws.drop (k + 1)) < 0 then -1 else placeP w (ws.drop (k + 1)) + 1) < 0 then (-1 : Int) else (if ws[k] = w then 0 else if placeP w (ws.drop (k + 1)) < 0 then -1 else placeP w (ws.drop (k + 1)) + 1) + k) = _
  rw [if_neg hne]
  by_cases hp : placeP w (ws.drop (k + 1)) < 0
  · rw [if_pos hp, if_pos hp, if_pos (by decide)]
  · rw [if_neg hp, if_neg hp, if_neg (by omega)]
    omega
theorem place_hit {w : List UInt8} {ws : List (List UInt8)} {k : Nat} (hk : k < ws.length) (he : ws[k] = w) (h : placeP w ws = if placeP w (ws.drop k) < 0 then -1 else placeP w (ws.drop k) + k) : placeP w ws = k := by
  rw [h, List.drop_eq_getElem_cons hk]
  have e : placeP w (ws[k] :: ws.drop (k + 1)) = 0 := by unfold placeP; rw [if_pos he]
  rw [e]
  simp
theorem place_miss {w : List UInt8} {ws : List (List UInt8)} (h : placeP w ws = if placeP w (ws.drop ws.length) < 0 then -1 else placeP w (ws.drop ws.length) + (ws.length : Nat)) : placeP w ws = -1 := by
  rw [h, List.drop_length]
  rfl
set_option maxRecDepth 100000 in
set_option maxHeartbeats 1000000 in
theorem place_any (x : List UInt8) (a c : Nat) (ws : List ByteArray) (w : World) (hw : RT w a ws) (hn : ws.length ≤ 100) (n : Nat) (hl : ws.length = n) :
    Calls Tryd.prog 33 #[.string ⟨x.toArray⟩, .slice (some ⟨a, 0, none⟩) n c] w fun e w' => e = .returned (.int .i64 (placeP x (lists ws))) ∧ w = w' := by
  subst hl
  have HL := Lib.hid (show (lists ws).length = ws.length by unfold lists; simp)
  obtain ⟨X, hX⟩ : ∃ Q : ByteArray, ⟨x.toArray⟩ = Q := ⟨_, rfl⟩
  have HX := Lib.hid (show X.data.toList = x by rw [← hX])
  rw [hX]
  clear hX
  obtain ⟨v, hv⟩ : ∃ v, placeP x (lists ws) = v := ⟨_, rfl⟩
  rw [hv]
  have HV := Lib.hid hv
  clear hv
  go_enter Tryd.func33, Tryd.ntmps33
  go_wp2
  go_loop [9] (fun i => ∃ k : Nat, k ≤ ws.length ∧ i = .int .i64 k ∧ Hid (placeP x (lists ws) = if placeP x ((lists ws).drop k) < 0 then -1 else placeP x ((lists ws).drop k) + k)) (fun i => ws.length - (RowKit.intOf i).toNat)
  case atStart => exact ⟨0, Nat.zero_le _, rfl, by
    show _ = _
    rw [List.drop_zero]
    have := place_ge x (lists ws)
    by_cases hp : placeP x (lists ws) < 0
    · rw [if_pos hp]; omega
    · rw [if_neg hp]; simp⟩
  case round =>
    obtain ⟨k, hk, rfl, hinv⟩ := hrel
    by_cases hlt : k < ws.length
    · have hx := hw k hlt
      have hg : ws.getD k default = ws[k] := by simp [List.getD, List.getElem?_eq_getElem hlt]
      rw [hg] at hx
      have HE := Lib.hid (show (lists ws)[k]'(by rw [HL.out]; exact hlt) = ws[k].data.toList by unfold lists; simp)
      clear hg
      generalize ws[k] = p at *
      by_cases hp : p.data.toList = x
      · have HH := Lib.hid (place_hit (by rw [HL.out]; exact hlt) (by rw [HE.out]; exact hp) hinv.out)
        have te : (p.toList == X.toList) = true := by rw [Lib.toList_data, Lib.toList_data, HX.out, hp]; simp
        clear hp
        go_wp2
        go_ret
        exact ⟨ret_int (by rw [← HV.out, HH.out]), rfl⟩
      · have HH := Lib.hid (place_step (by rw [HL.out]; exact hlt) (by rw [HE.out]; exact hp) hinv.out)
        have te : (p.toList == X.toList) = false := by rw [Lib.toList_data, Lib.toList_data, HX.out]; simpa using hp
        clear hp
        go_wp2
        go_round
        case rel => exact ⟨k + 1, by omega, by go_num, HH.out⟩
        case measure => simp [RowKit.intOf]; omega
    · obtain rfl : k = ws.length := by omega
      have HH := Lib.hid (place_miss (ws := lists ws) (w := x) (by have := hinv.out; rw [HL.out]; exact this))
      go_wp2
      go_ret
      exact ⟨ret_int (by rw [← HV.out, HH.out]), rfl⟩

/-! words -/
theorem Tryd.infoS : (Tryd.prog.info? 9).map (fun i => (i.zero, i.size, i.bytes)) = some (some (.string ⟨#[]⟩), 1, 16) := by kernel_rfl
/-- A slice of the call's own that holds these texts. -/
def OwnS (w : World) (base : Nat) (v : Value) (ws : List (List UInt8)) : Prop := w.ownsRow base 9 1 v ws.length (ws.map fun x => Value.string ⟨x.toArray⟩)
theorem ownS_nil (w : World) (base : Nat) : OwnS w base (.slice none 0 0) [] := World.ownsRow_nil _ _ _ _
theorem appS {ops : Array Oper} {rest : List Oper} {o : Oper} {a : Act} {Q : Exit → Act → World → Prop} (hgd : o.guard = none) (s x : Operand)
    (ho : o.op = .call { callee := .builtin .append, args := #[s, x], argTypes := #[35, 35] }) (w w0 : World) (B base : Nat) (v : Value) (ws : List (List UInt8)) (l : List UInt8)
    (hs : a.eval s = v) (hown : OwnS w base v ws) (hx : a.eval x = .slice (some ⟨w.heap.size, 0, none⟩) 1 1) (hlen : ws.length + 1 ≤ 1000000) (hbase : base ≤ w.heap.size) (hB : B ≤ base) (hb : Below B w0 w)
    (h : ∀ v' w', OwnS w' base v' (ws ++ [l]) → Below B w0 w' → wpList Tryd.prog ops Q rest (a.put o.dst v') w') :
    wpList Tryd.prog ops Q (o :: rest) a (w.alloc (.cells #[.string ⟨l.toArray⟩] 9)) := by
  obtain ⟨i0, hi, hz0, hz1, hz2⟩ := info_parts Tryd.infoS
  refine wpList_append_own _ hgd s x 35 ho base 9 i0 (.string ⟨#[]⟩) 1 16 Tryd.underlying35 hi hz0 hz1 hz2 rfl (by decide) v ws.length _ hs (World.ownsRow.alloc hown _) ⟨w.heap.size, 0, none⟩ 1 1 [.string ⟨l.toArray⟩] hx rfl ?_ ?_ (by unfold maxLen; omega) (by omega) (by simp; omega) ?_
  · intro j u hj
    match j, hj with
    | 0, hj => simp at hj; subst hj; simp [Addr.add]
  · intro u hu; simp at hu; subst hu; rfl
  · intro v' w' hown' hgrow _
    refine h v' w' ?_ ?_
    · unfold OwnS
      rw [List.map_append, List.length_append]
      exact hown'
    · refine (hb.alloc (by omega) _).grown hgrow (by simp; omega) (fun k hk => ?_)
      have := (World.ownsRow.lt hown k hk).1
      omega
end Go.Proofs.YtocmppafmaehcaaDoor
