/-
  A disk's changes in memory; laws on appends, look-ups and stores in a region that draws its order. No conditions.
-/
import Derived.Test.YtbodkjifpmencaaGreatVI
namespace Go.Proofs.YtbodkjifpmencaaGreat
open Go.RowKit
open Go.Lib
open Go.Maps (Keyed)

section
variable {P : Program} (w : World) {o : Oper} {a : Act} {K : Act → World → Prop} {Q : Exit → Act → World → Prop}
theorem wp_append_at (s x : Operand) (t : TypeId)
    (ho : o.op = .call { callee := .builtin .append, args := #[s, x], argTypes := #[t, t] })
    (base : Nat) (e : TypeId) (i : TypeInfo) (z : Value) (size bytes : Nat) (ht : P.underlying t = some (.slice e)) (hi : P.info? e = some i) (hz : i.zero = some z)
    (hsize : i.size = size) (hby : i.bytes = bytes) (hzs : z.cells.size = size) (hsz : 0 < size)
    (v : Value) (n : Nat) (xs : List Value) (hs : a.eval s = v) (hown : w.ownsRow base e size v n xs)
    (ad : Addr) (m c : Nat) (news : List Value) (hx : a.eval x = .slice (some ad) m c) (hl : news.length = m * size) (hnews : ∀ j u, news[j]? = some u → w.cell? (ad.add j) = some u) (h1 : ∀ u ∈ news, u.oneCell' = true)
    (h63 : n + m ≤ maxLen) (hbytes : (n + m) * bytes ≤ 140737488355328) (hbase : base ≤ w.heap.size)
    (h : ∀ v' w', w'.ownsRow base e size v' (n + m) (xs ++ news) → w.grownBy w' v.ownBlock → (v' = .slice none 0 0 ↔ v = .slice none 0 0 ∧ m = 0) → (v'.ownBlock = v.ownBlock ∨ v'.ownBlock = some w.heap.size) → K (a.put o.dst v') w') :
    o.wp P a w K Q := by
  obtain ⟨v', w', hr, h2, h3, h4, h5⟩ := run_append_own_at (P := P) w base t o.type e i z size bytes ht hi hz hsize hby hzs hsz v n xs hown ad m c news hl hnews h1 h63 hbytes hbase
  unfold Oper.wp execOp
  simp only [ho, resolve, invoke, builtin, Sem.run_bind, Sem.run_pure, Result.andThen_ok, List.map_toArray, List.map_cons, List.map_nil, hs, hx, hr]
  exact h v' w' h2 h3 h4 h5
theorem wp_lookup_map (m x : Operand) (t : TypeId) (hop : o.op = Op.lookup t m x false)
    (k e : TypeId) (KK : Keyed P k) (ht : P.underlying t = some (.map k e)) (z : Value) (hz : (zeroValue e).run P w = .ok z w) (b : Nat) (E : Ents) (hm : a.eval m = .map (some b)) (H : MapIs P k b E w)
    (key : Value) (kl : Lit) (hx : a.eval x = key) (hkey : keyOf P k key = some kl) (v : Value) (hv : (lookE E kl).getD z = v) (hK : K (a.put o.dst v) w) : o.wp P a w K Q := by
  have hrun := H.look KK ht hz hkey
  rw [hv] at hrun
  unfold Oper.wp
  simp [execOp, hop, hm, hx, hrun, Result.andThen]
  exact hK
theorem wp_store_map (m x v : Operand) (t : TypeId) (hop : o.op = Op.mapUpdate t m x v)
    (k e : TypeId) (KK : Keyed P k) (ht : P.underlying t = some (.map k e)) (b : Nat) (E : Ents) (hm : a.eval m = .map (some b)) (H : MapIs P k b E w) (hn : E.length < maxLen)
    (key val : Value) (kl : Lit) (hx : a.eval x = key) (hv : a.eval v = val) (hkey : keyOf P k key = some kl)
    (hK : ∀ w', MapIs P k b (putE E kl val) w' → w.grownBy w' (some b) → K (a.put o.dst undef) w') : o.wp P a w K Q := by
  obtain ⟨w', hrun, r1, r2⟩ := H.store KK ht hn hkey (val := val)
  unfold Oper.wp
  simp [execOp, hop, hm, hx, hv, hrun, Result.andThen]
  exact hK w' r1 r2
end
/-- The slice of a directory's changes, as the map has it. -/
def chV (L : Lay) (q : Q) (d : Bs) : Value := (lookE (entC L q.changes) (.string d)).getD (.slice none 0 0)
def chL (q : Q) (d : Bs) : List QC := (look q.changes d).getD []
theorem chV_cases (L : Lay) (q : Q) (d : Bs) : (look q.changes d = none ∧ chV L q d = .slice none 0 0 ∧ chL q d = []) ∨ ∃ cs, look q.changes d = some cs ∧ chV L q d = L.cv d ∧ chL q d = cs := by
  have h : lookE (entC L q.changes) (.string d) = (q.changes.find? fun x => decide (x.1 = d)).map fun x => L.cv x.1 := by
    unfold lookE entC
    rw [List.find?_map]
    have : ((fun p : Lit × Value => p.1.sameKey (.string d)) ∘ fun x : Bs × List QC => (Lit.string x.1, L.cv x.1)) = fun x => decide (x.1 = d) := by
      funext x; exact sk_str _ _
    rw [this]
    cases q.changes.find? (fun x => decide (x.1 = d)) <;> rfl
  unfold chV chL look
  rw [h]
  cases hf : q.changes.find? (fun x => decide (x.1 = d)) with
  | none => exact .inl ⟨rfl, rfl, rfl⟩
  | some x =>
    have := List.find?_some hf
    simp at this
    exact .inr ⟨x.2, rfl, by rw [← this]; rfl, rfl⟩
theorem QD.chRow {L : Lay} {q : Q} {w : World} (H : QD L q w) (d : Bs) : w.ownsRow 0 TC 3 (chV L q d) (chL q d).length (cellsC L (chL q d)) := by
  rcases chV_cases L q d with ⟨_, h1, h2⟩ | ⟨cs, h0, h1, h2⟩
  · rw [h1, h2]; exact World.ownsRow_nil _ _ _ _
  · rw [h1, h2]; exact H.chg (d, cs) (look_mem h0)
theorem QD.chFoot {L : Lay} {q : Q} {d : Bs} {b : Nat} (hb : (chV L q d).ownBlock = some b) : ∃ cs, (d, cs) ∈ q.changes ∧ (L.cv d).ownBlock = some b := by
  rcases chV_cases L q d with ⟨_, h1, h2⟩ | ⟨cs, h0, h1, h2⟩
  · rw [h1] at hb; cases hb
  · exact ⟨cs, look_mem h0, by rw [← h1]; exact hb⟩
def cvL (L : Lay) (d : Bs) (v : Value) : Lay := { L with cv := upd L.cv d v }
theorem put_entC (L : Lay) (c : List (Bs × List QC)) (d : Bs) (v : Value) (cs : List QC) : putE (entC L c) (.string d) v = entC (cvL L d v) (putN c d cs) := by
  have h : dropE (entC L c) (.string d) = entC (cvL L d v) (dropN c d) := by
    unfold dropE dropN entC cvL
    rw [List.filter_map]
    have : List.filter ((fun p : Lit × Value => !p.1.sameKey (.string d)) ∘ fun x : Bs × List QC => (Lit.string x.1, L.cv x.1)) c = List.filter (fun x => decide (x.1 ≠ d)) c := by
      refine List.filter_congr (fun x _ => ?_)
      show (!(Lit.string x.1).sameKey (.string d)) = _
      rw [sk_str]; simp
    rw [this]
    refine List.map_congr_left (fun x hx => ?_)
    have hne : x.1 ≠ d := by have := (List.mem_filter.1 hx).2; simpa using this
    show (Lit.string x.1, L.cv x.1) = (Lit.string x.1, upd L.cv d v x.1)
    rw [upd_ne _ _ hne]
  unfold putE
  rw [h]
  unfold putN entC
  rw [List.map_append]
  simp [cvL, upd]
theorem mem_putN {κ β : Type} [DecidableEq κ] {l : List (κ × β)} {p : κ} {k : β} {x : κ × β} : x ∈ putN l p k ↔ (x ∈ l ∧ x.1 ≠ p) ∨ x = (p, k) := by
  unfold putN dropN
  rw [List.mem_append, List.mem_filter]
  simp
theorem mem_dropN {κ β : Type} [DecidableEq κ] {l : List (κ × β)} {p : κ} {x : κ × β} : x ∈ dropN l p ↔ x ∈ l ∧ x.1 ≠ p := by
  unfold dropN
  rw [List.mem_filter]
  simp
/-- One directory's changes have turned. -/
theorem QD.setC {L : Lay} {q : Q} {w w' : World} (H : QD L q w) (d : Bs) (ho : Off (fun b => b = L.mc ∨ (chV L q d).ownBlock = some b) w w') (v : Value) (cs : List QC)
    (hm : MapIs Tryz.prog 9 L.mc (entC (cvL L d v) (putN q.changes d cs)) w') (hr : w'.ownsRow 0 TC 3 v cs.length (cellsC L cs)) (hl : ∀ b, v.ownBlock = some b → (chV L q d).ownBlock = some b ∨ w.heap.size ≤ b) :
    QD (cvL L d v) { q with changes := putN q.changes d cs } w' := by
  have nb : ∀ {b x}, kindAt w b = some x → x ≠ none → x ≠ some TC → ¬ (b = L.mc ∨ (chV L q d).ownBlock = some b) := fun hx h1 h2 e => by
    rcases e with e | e
    · exact ne_kind hx H.changes.kind h1 e
    · obtain ⟨cs, hc, hb⟩ := QD.chFoot e
      exact ne_kind hx (H.kg hc hb) h2 rfl
  have nm : ∀ {b}, kindAt w b = some none → b ≠ L.mc → ¬ (b = L.mc ∨ (chV L q d).ownBlock = some b) := fun hx h1 e => by
    rcases e with e | e
    · exact h1 e
    · obtain ⟨cs, hc, hb⟩ := QD.chFoot e
      exact ne_kind hx (H.kg hc hb) (by simp) rfl
  refine ⟨?_, H.names.off ho (nm H.names.kind H.nc), H.kept.off ho (nm H.kept.kind H.kc), hm, H.loose.off ho (nm H.loose.kind (Ne.symm H.cl)), ?_, ?_, ?_, H.nk, H.nc, H.nl, H.kc, H.kl, H.cl, H.rows, ?_⟩
  · exact ho.blk H.disk (nb H.kd (by simp) (by decide))
  · exact fun k hk => ho.blk (H.bod k hk) (nb (H.kb hk) (by simp) (by decide))
  · exact fun k hk => (H.row k hk).off ho (fun b hb => nb (H.kr hk hb) (by simp) (by decide))
  · intro x hx
    rcases mem_putN.1 hx with ⟨hx, hne⟩ | rfl
    · show w'.ownsRow 0 TC 3 (upd L.cv d v x.1) _ _
      rw [upd_ne _ _ hne]
      refine own_off (H.chg x hx) ho (fun b hb e => ?_)
      rcases e with e | e
      · exact ne_kind (H.kg hx hb) H.changes.kind (by simp) e
      · obtain ⟨cs, hc, hb2⟩ := QD.chFoot e
        exact H.chs x (d, cs) b hx hc hne hb hb2
    · show w'.ownsRow 0 TC 3 (upd L.cv d v d) _ _
      rw [upd_same]; exact hr
  · intro x y b hx hy hne h1 h2
    change (upd L.cv d v x.1).ownBlock = some b at h1
    change (upd L.cv d v y.1).ownBlock = some b at h2
    rcases mem_putN.1 hx with ⟨hx, hnx⟩ | rfl
    · rw [upd_ne _ _ hnx] at h1
      rcases mem_putN.1 hy with ⟨hy, hny⟩ | rfl
      · rw [upd_ne _ _ hny] at h2
        exact H.chs x y b hx hy hne h1 h2
      · rw [upd_same] at h2
        rcases hl b h2 with h | h
        · obtain ⟨cs, hc, hb2⟩ := QD.chFoot h
          exact H.chs x (d, cs) b hx hc hnx h1 hb2
        · exact absurd ((H.chg x hx).lt b h1).2 (Nat.not_lt.2 h)
    · rw [upd_same] at h1
      rcases mem_putN.1 hy with ⟨hy, hny⟩ | rfl
      · rw [upd_ne _ _ hny] at h2
        rcases hl b h1 with h | h
        · obtain ⟨cs, hc, hb2⟩ := QD.chFoot h
          exact H.chs y (d, cs) b hy hc hny h2 hb2
        · exact absurd ((H.chg y hy).lt b h2).2 (Nat.not_lt.2 h)
      · exact hne rfl
theorem foot_setC {L : Lay} {q : Q} {w : World} (d : Bs) (v : Value) (cs : List QC) {n : Nm} (hl : ∀ b, v.ownBlock = some b → (chV L q d).ownBlock = some b ∨ w.heap.size ≤ b) {b : Nat}
    (h : foot (cvL L d v) { q with names := n, changes := putN q.changes d cs } b) : foot L q b ∨ w.heap.size ≤ b := by
  rcases h with h | h | h | h | h | h | ⟨x, hx, h⟩
  · exact .inl (.inl h)
  · exact .inl (.inr (.inl h))
  · exact .inl (.inr (.inr (.inl h)))
  · exact .inl (.inr (.inr (.inr (.inl h))))
  · exact .inl (.inr (.inr (.inr (.inr (.inl h)))))
  · exact .inl (.inr (.inr (.inr (.inr (.inr (.inl h))))))
  · change (upd L.cv d v x.1).ownBlock = some b at h
    rcases mem_putN.1 hx with ⟨hx, hne⟩ | rfl
    · rw [upd_ne _ _ hne] at h
      exact .inl (.inr (.inr (.inr (.inr (.inr (.inr ⟨x, hx, h⟩))))))
    · rw [upd_same] at h
      rcases hl b h with h2 | h2
      · obtain ⟨cs2, hc, hb2⟩ := QD.chFoot h2
        exact .inl (.inr (.inr (.inr (.inr (.inr (.inr ⟨(d, cs2), hc, hb2⟩))))))
      · exact .inr h2
end Go.Proofs.YtbodkjifpmencaaGreat
