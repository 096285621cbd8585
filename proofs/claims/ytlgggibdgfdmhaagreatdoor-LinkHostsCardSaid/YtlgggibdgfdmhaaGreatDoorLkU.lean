/-
  Links: a text without a scheme and without two slashes stays with the scheme, the host and the port. No program text.
-/
import Derived.Test.YtlgggibdgfdmhaaGreatDoorLkT
namespace Go.Proofs.YtlgggibdgfdmhaaGreatDoor
open Go.RowKit
open Go.Lib

theorem parse_root {p q : Lk} {t : List UInt8} (hp : WF p) (h : parseL (rootL p ++ 47 :: t) = some q) : q.scheme = p.scheme ∧ q.host = p.host ∧ q.port = p.port := by
  have hcut : cut (rootL p ++ 47 :: t) [58, 47, 47] = (p.scheme, p.host ++ portL p.port ++ 47 :: t, true) := by
    have := cut_mid p.scheme (p.host ++ portL p.port ++ 47 :: t) [47, 47] 58 (sch_no _ hp.sch)
    rw [← this]
    congr 1
    unfold rootL
    simp [List.append_assoc]
  have hrh : ∀ c r, 47 :: t = c :: r → c = 47 ∨ c = 63 ∨ c = 35 := fun c r h => by injection h with h; exact .inl h.symm
  have htw : (p.host ++ portL p.port ++ 47 :: t).takeWhile hostB = p.host := by
    rw [List.append_assoc]
    refine takeWhile_mid _ _ hp.host (fun c r h => ?_)
    unfold portL at h
    split at h
    · rcases hrh c r h with h | h | h <;> (subst h; decide)
    · injection h with h; rw [← h]; decide
  have hdr : (p.host ++ portL p.port ++ 47 :: t).drop p.host.length = portL p.port ++ 47 :: t := by
    rw [List.append_assoc]; exact List.drop_left
  unfold parseL at h
  split at h
  · cases h
  · unfold apartL at h
    rw [hcut] at h
    simp only at h
    rw [hp.sch, if_pos (by decide)] at h
    unfold behind at h
    have h1 := hp.host1
    have h2 := hp.host2
    rw [htw, if_neg (by omega), hdr, portCut_print _ _ hp.port hrh] at h
    simp only at h
    split at h
    · have := restCut_some h
      exact ⟨this.1, this.2.1, this.2.2.1⟩
    · cases h
theorem folder_head {p : List UInt8} (h : pathB p = true) : ∃ t, folderL p = 47 :: t := by
  unfold folderL
  split
  · exact ⟨[], rfl⟩
  · rename_i h0
    cases p with
    | nil => exact absurd (by decide : lastS [] < 0) h0
    | cons c r =>
      unfold pathB at h
      simp at h
      subst h
      have : (lastS (47 :: r) + 1).toNat = (lastS (47 :: r)).toNat + 1 := by omega
      rw [this]
      exact ⟨_, rfl⟩
theorem resolve_stays {x : Lk} (hx : WF x) {l t : List UInt8} (hl : (l = 47 :: t ∧ t.head? ≠ some 47) ∨ l = 46 :: 47 :: t) {y : Lk} (hy : resolveL x l = some y) :
    y.scheme = x.scheme ∧ y.host = x.host ∧ y.port = x.port ∧ dotsL y.path = y.path := by
  have key : ∃ u, againstL x l = (rootL x ++ 47 :: u, true) := by
    rcases hl with ⟨rfl, ht⟩ | rfl
    · have h1 : hasSch (47 :: t) = false := by
        have : indexAny (47 :: t) seps = 0 := by unfold indexAny; rw [if_pos (by decide)]
        unfold hasSch; rw [this]; rfl
      have h2 : ([47, 47] : List UInt8).isPrefixOf (47 :: t) = false := by
        cases t with
        | nil => rfl
        | cons c r =>
          have : (47 : UInt8) ≠ c := fun e => ht (by rw [← e]; rfl)
          simp [List.isPrefixOf, this]
      unfold againstL
      rw [h1, h2, if_neg (by simp), if_neg (by simp), if_pos (by simp [List.isPrefixOf])]
      exact ⟨t, rfl⟩
    · have h1 : hasSch (46 :: 47 :: t) = false := by
        have : indexAny (46 :: 47 :: t) seps = 1 := indexAny_hit (i := 1) (x := 47) (fun j b hj hb => by
          obtain rfl : j = 0 := by omega
          simp at hb; subst hb; decide) rfl (by decide)
        unfold hasSch; rw [this]; simp
      have h2 : ([47, 47] : List UInt8).isPrefixOf (46 :: 47 :: t) = false := by simp [List.isPrefixOf]
      have h3 : ([47] : List UInt8).isPrefixOf (46 :: 47 :: t) = false := by simp [List.isPrefixOf]
      obtain ⟨u, hu⟩ := folder_head hx.path
      unfold againstL
      rw [h1, h2, h3, if_neg (by simp), if_neg (by simp), if_neg (by simp), if_neg (by simp), if_neg (by simp), hu]
      exact ⟨u ++ 46 :: 47 :: t, by simp [List.append_assoc]⟩
  obtain ⟨u, hu⟩ := key
  unfold resolveL at hy
  rw [hu] at hy
  simp only at hy
  cases hp : parseL (rootL x ++ 47 :: u) with
  | none => rw [hp] at hy; cases hy
  | some q =>
    rw [hp] at hy
    obtain ⟨e1, e2, e3⟩ := parse_root hx hp
    injection hy with hy
    rw [← hy]
    exact ⟨e1, e2, e3, dots_twice q.path⟩
end Go.Proofs.YtlgggibdgfdmhaaGreatDoor
