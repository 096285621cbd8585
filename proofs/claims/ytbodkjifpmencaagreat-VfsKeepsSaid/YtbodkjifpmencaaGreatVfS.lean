/-
  The disk of layer 6 as plain functions: its size stays modest. No conditions.
-/
import Derived.Test.YtbodkjifpmencaaGreatVfP
namespace Go.Proofs.YtbodkjifpmencaaGreat

section
variable {κ β : Type} [DecidableEq κ]
theorem dropN_len (l : List (κ × β)) (p : κ) : (dropN l p).length ≤ l.length := List.length_filter_le _ _
theorem putN_len (l : List (κ × β)) (p : κ) (k : β) : (putN l p k).length ≤ l.length + 1 := by
  unfold putN; rw [List.length_append]; have := dropN_len l p; simp; omega
theorem dropN_nodup {l : List (κ × β)} {p : κ} (h : (l.map (·.1)).Nodup) : ((dropN l p).map (·.1)).Nodup := by
  unfold dropN
  exact h.sublist ((List.filter_sublist).map _)
theorem putN_nodup {l : List (κ × β)} {p : κ} {k : β} (h : (l.map (·.1)).Nodup) : ((putN l p k).map (·.1)).Nodup := by
  unfold putN
  rw [List.map_append, List.nodup_append]
  refine ⟨dropN_nodup h, by simp, fun a ha b hb e => ?_⟩
  obtain ⟨x, hx, rfl⟩ := List.mem_map.1 ha
  simp at hb
  unfold dropN at hx
  have := (List.mem_filter.1 hx).2
  simp at this
  exact this (e.trans hb)
theorem mem_put {l : List (κ × β)} {p : κ} {k : β} {x : κ × β} (h : x ∈ putN l p k) : x ∈ l ∨ x = (p, k) := by
  unfold putN dropN at h
  rcases List.mem_append.1 h with h | h
  · exact .inl (List.mem_filter.1 h).1
  · simp at h; exact .inr h
theorem mem_drop {l : List (κ × β)} {p : κ} {x : κ × β} (h : x ∈ dropN l p) : x ∈ l := (List.mem_filter.1 h).1
end
theorem applyN_nodup {c : QC} {l : Nm} (h : (l.map (·.1)).Nodup) : ((applyN c l).map (·.1)).Nodup := by
  unfold applyN
  cases c.body with
  | none => exact dropN_nodup h
  | some k => exact putN_nodup (dropN_nodup h)
theorem sum_drop (c : List (Bs × List QC)) (d : Bs) : (((dropN c d).map fun x => x.2.length).sum) + ((look c d).getD []).length ≤ (c.map fun x => x.2.length).sum := by
  induction c with
  | nil => simp [dropN, look]
  | cons x r ih =>
    by_cases h : x.1 = d
    · have e1 : dropN (x :: r) d = dropN r d := by unfold dropN; rw [List.filter_cons_of_neg (by simpa using h)]
      have e2 : look (x :: r) d = some x.2 := by unfold look; rw [List.find?_cons_of_pos (by simpa using h)]; rfl
      rw [e1, e2]
      have : ((dropN r d).map fun x => x.2.length).sum ≤ (r.map fun x => x.2.length).sum := by omega
      simp only [List.map_cons, List.sum_cons, Option.getD_some]
      omega
    · have e1 : dropN (x :: r) d = x :: dropN r d := by unfold dropN; rw [List.filter_cons_of_pos (by simpa using h)]
      have e2 : look (x :: r) d = look r d := by unfold look; rw [List.find?_cons_of_neg (by simpa using h)]
      rw [e1, e2]
      simp only [List.map_cons, List.sum_cons]
      omega
theorem sum_put (c : List (Bs × List QC)) (d : Bs) (cs : List QC) : ((putN c d cs).map fun x => x.2.length).sum + ((look c d).getD []).length ≤ (c.map fun x => x.2.length).sum + cs.length := by
  have := sum_drop c d
  unfold putN
  rw [List.map_append, List.sum_append]
  simp
  omega
theorem Small.mono {N M : Nat} {q : Q} (h : Small N q) (hm : N ≤ M) : Small M q :=
  ⟨Nat.le_trans h.nb hm, Nat.le_trans h.nn hm, Nat.le_trans h.nk hm, Nat.le_trans h.nc hm, Nat.le_trans h.nl hm, fun b hb => ⟨Nat.le_trans (h.now b hb).1 hm, (h.now b hb).2⟩, h.kn, h.kk, h.kc, h.kl, h.r0, h.r1, h.a0, h.a1, h.dn, h.dk, h.dc, h.dl⟩
theorem Small.new (room : Int) (h : room ≤ 9223372036854775807) : Small 0 (qNew room) := by
  refine ⟨?_, ?_, ?_, ?_, ?_, ?_, ?_, ?_, ?_, ?_, ?_, ?_, ?_, ?_, ?_, ?_, ?_, ?_⟩ <;> simp [qNew] <;> omega
theorem Small.strike {N : Nat} {q : Q} (h : Small N q) : Small N (strikeQ q).2 := by
  obtain ⟨h1, h2, h3, h4, h5, h6, h7, h8, h9, h10, h11, h12, h13, h14, h15, h16, h17, h18⟩ := h
  unfold strikeQ
  split
  · split
    · exact ⟨h1, h2, h3, h4, h5, h6, h7, h8, h9, h10, h11, h12, by show _ ≤ q.ahead - 1; omega, by show q.ahead - 1 ≤ _; omega, h15, h16, h17, h18⟩
    · exact ⟨h1, h2, h3, h4, h5, h6, h7, h8, h9, h10, h11, h12, h13, h14, h15, h16, h17, h18⟩
  · exact ⟨h1, h2, h3, h4, h5, h6, h7, h8, h9, h10, h11, h12, h13, h14, h15, h16, h17, h18⟩
theorem begin_snd (q : Q) (r : Bool) : (beginQ q r).2 = if r then (strikeQ q).2 else q := by
  unfold beginQ
  cases r
  · rfl
  · rcases strikeQ q with ⟨a, b⟩
    cases a <;> rfl
theorem Small.begin {N : Nat} {q : Q} (h : Small N q) (r : Bool) : Small N (beginQ q r).2 := by
  rw [begin_snd]
  cases r
  · exact h
  · exact h.strike
theorem Small.fail {N : Nat} {q : Q} (h : Small N q) (calls : Int) (once : Bool) (h0 : -9223372036854775808 ≤ calls) (h1 : calls ≤ 9223372036854775807) : Small N (failQ q calls once) := by
  obtain ⟨a1, a2, a3, a4, a5, a6, a7, a8, a9, a10, a11, a12, _, _, a15, a16, a17, a18⟩ := h
  exact ⟨a1, a2, a3, a4, a5, a6, a7, a8, a9, a10, a11, a12, h0, h1, a15, a16, a17, a18⟩
theorem mem_set_of {α : Type} {l : List α} {k : Nat} {x y : α} (h : y ∈ l.set k x) : y ∈ l ∨ y = x := by
  rcases List.mem_or_eq_of_mem_set h with h | h
  · exact .inl h
  · exact .inr h
theorem Small.setB {N M : Nat} {q : Q} (h : Small N q) (hm : N ≤ M) (k : Nat) (x : QB) (h1 : x.now.length ≤ M) (h2 : x.kept ≤ x.now.length) (l : List (Nat × Unit)) (hl : l.length ≤ M) (hk : ∀ y ∈ l, y.1 < q.bodies.length) (hd : (l.map (·.1)).Nodup) :
    Small M { q with bodies := q.bodies.set k x, loose := l } := by
  have h' := h.mono hm
  refine ⟨by simpa using h'.nb, h'.nn, h'.nk, h'.nc, hl, fun b hb => ?_, ?_, ?_, ?_, ?_, h'.r0, h'.r1, h'.a0, h'.a1, h'.dn, h'.dk, h'.dc, hd⟩
  · rcases mem_set_of hb with hb | rfl
    · exact h'.now b hb
    · exact ⟨h1, h2⟩
  · intro y hy; have := h.kn y hy; simpa using this
  · intro y hy; have := h.kk y hy; simpa using this
  · intro y hy; have := h.kc y hy; simpa using this
  · intro y hy; simpa using hk y hy
theorem Small.extend {N : Nat} {q : Q} (h : Small N q) {k : Nat} (hk : k < q.bodies.length) (b : Bs) : Small (N + 1 + b.length) (extendQ q k b) := by
  unfold extendQ
  by_cases hb : b = []
  · rw [if_pos hb]; exact h.mono (by omega)
  · rw [if_neg hb]
    have hq := h.body k
    refine h.setB (by omega) k _ (by simp; omega) (by simp; omega) _ (by have := putN_len q.loose k (); have := h.nl; omega) (fun y hy => ?_) (putN_nodup h.dl)
    rcases mem_put hy with hy | rfl
    · exact h.kl y hy
    · exact hk
theorem Small.addB {N : Nat} {q : Q} (h : Small N q) : Small (N + 1) { q with bodies := q.bodies ++ [⟨[], 0⟩] } := by
  have h' := h.mono (Nat.le_succ N)
  refine ⟨by simp; exact h.nb, h'.nn, h'.nk, h'.nc, h'.nl, fun b hb => ?_, ?_, ?_, ?_, ?_, h'.r0, h'.r1, h'.a0, h'.a1, h'.dn, h'.dk, h'.dc, h'.dl⟩
  · rcases List.mem_append.1 hb with hb | hb
    · exact h'.now b hb
    · simp at hb; subst hb; simp
  · intro y hy; have := h.kn y hy; simp; omega
  · intro y hy; have := h.kk y hy; simp; omega
  · intro y hy
    have := h.kc y hy
    refine ⟨this.1, fun c hc => ⟨(this.2 c hc).1, (this.2 c hc).2.1, fun k hk => ?_⟩⟩
    have := (this.2 c hc).2.2 k hk
    simp; omega
  · intro y hy; have := h.kl y hy; simp; omega
theorem Small.newBody {N : Nat} {q : Q} (h : Small N q) (b : Bs) : Small (N + 2 + b.length) (newBodyQ q b) := by
  unfold newBodyQ
  exact (h.addB.extend (by simp) b).mono (by omega)
theorem newBody_len (q : Q) (b : Bs) : (newBodyQ q b).bodies.length = q.bodies.length + 1 := by
  unfold newBodyQ extendQ
  split <;> simp
theorem Small.change {N : Nat} {q : Q} (h : Small N q) (frm to : Bs) (o : Option Nat) (hf : frm.length ≤ 161) (ht : to.length ≤ 161) (hd : (dirL frm).length ≤ 161) (ho : ∀ k, o = some k → k < q.bodies.length) : Small (N + 1) (changeQ q frm to o) := by
  have h' := h.mono (Nat.le_succ N)
  unfold changeQ
  refine ⟨h'.nb, ?_, ?_, ?_, h'.nl, h'.now, fun x hx => ?_, h'.kk, fun x hx => ?_, h'.kl, h'.r0, h'.r1, h'.a0, h'.a1, applyN_nodup h.dn, h'.dk, putN_nodup h.dc, h'.dl⟩
  · have := len_applyN ⟨frm, to, o⟩ q.names; have := h.nn; show (applyN _ _).length ≤ _; omega
  · have h1 := sum_put q.changes (dirL frm) ((look q.changes (dirL frm)).getD [] ++ [⟨frm, to, o⟩])
    have h2 := h.nk
    rw [List.length_append] at h1
    simp only [List.length_singleton] at h1
    show q.kept.length + (List.map (fun x => x.2.length) (putN q.changes (dirL frm) ((look q.changes (dirL frm)).getD [] ++ [⟨frm, to, o⟩]))).sum ≤ N + 1
    omega
  · have := putN_len q.changes (dirL frm) ((look q.changes (dirL frm)).getD [] ++ [⟨frm, to, o⟩]); have := h.nc; show (putN _ _ _).length ≤ _; omega
  · rcases mem_applyN hx with hx | ⟨h1, h2⟩
    · exact h.kn x hx
    · exact ⟨by rw [h1]; exact ht, ho _ h2⟩
  · rcases mem_put hx with hx | rfl
    · exact h.kc x hx
    · refine ⟨hd, fun c hc => ?_⟩
      rcases List.mem_append.1 hc with hc | hc
      · cases hl : look q.changes (dirL frm) with
        | none => rw [hl] at hc; simp at hc
        | some cs =>
          rw [hl] at hc
          exact (h.kc _ (look_mem hl)).2 c hc
      · simp at hc; subst hc; exact ⟨hf, ht, ho⟩
end Go.Proofs.YtbodkjifpmencaaGreat
