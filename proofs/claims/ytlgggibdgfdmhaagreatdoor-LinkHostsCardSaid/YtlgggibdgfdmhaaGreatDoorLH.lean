/-
  The law LinkHosts of layer 4. Conditions: the library's variables hold what they are laid with.
-/
import Derived.Test.YtlgggibdgfdmhaaGreatDoorLHE
import Derived.Test.YtlgggibdgfdmhaaGreatDoorLHF
import Derived.Test.YtlgggibdgfdmhaaGreatDoorLHG
import Derived.Test.YtlgggibdgfdmhaaGreatDoorLHH
namespace Go.Proofs.YtlgggibdgfdmhaaGreatDoor
open Go.RowKit
open Go.Lib

theorem same_lk {x y : Lk} (h : y.scheme = x.scheme ∧ y.host = x.host ∧ y.port = x.port) : lkV y = .agg #[.string (bs x.scheme), .string (bs x.host), .int .i64 x.port, .string (bs y.path), .string (bs y.query), .string (bs y.frag), .bool y.hasQ, .bool y.hasF] := by
  unfold lkV aggV; rw [h.1, h.2.1, h.2.2]
theorem law_hosts (a s : ByteArray) (w : World) (hE : Env w) (ha : a.size ≤ maxLen) (_hs : s.size ≤ maxLen) : Calls Tryz.prog 9 #[.string a, .string s] w fun e w' => e = .returned (.bool true) ∧ Below w.heap.size w w' := by
  unfold maxLen at ha
  have hf := first_any w hE
  have P1 := fun W hW => parse_any a W hW (by omega)
  cases hpa : parseL a.data.toList with
  | none => rw [hpa] at P1; exact hosts_a a s w hE hf Lk.zero P1
  | some x =>
    rw [hpa] at P1
    by_cases hbig : 3000 < s.size
    · exact hosts_s a s w hE hf x P1 hbig
    · have fx := fits_of (parseL_some hpa)
      have wx := (parseL_some hpa).2.1
      have l1 : ((⟨#[47]⟩ : ByteArray) ++ s).data.toList = 47 :: s.data.toList := by simp
      have l2 : ((⟨#[46, 47]⟩ : ByteArray) ++ s).data.toList = 46 :: 47 :: s.data.toList := by simp
      have z1 : ((⟨#[47]⟩ : ByteArray) ++ s).size ≤ 5000 := by rw [size_list, l1, List.length_cons, ← size_list]; omega
      have z2 : ((⟨#[46, 47]⟩ : ByteArray) ++ s).size ≤ 5000 := by rw [size_list, l2, List.length_cons, List.length_cons, ← size_list]; omega
      have R1 := fun W hW => resolve_any x (⟨#[47]⟩ ++ s) W hW fx (by omega) (fun W' => indexAny_sep _ W' (by omega))
      have R2 := fun W hW => resolve_any x (⟨#[46, 47]⟩ ++ s) W hW fx (by omega) (fun W' => indexAny_sep _ W' (by omega))
      rw [l1] at R1
      rw [l2] at R2
      clear z1 z2 l1 l2
      have dd : ∀ {l : List UInt8} {y : Lk}, resolveL x l = some y → dotsL y.path = y.path → ∀ W, Env W → Calls Tryz.prog 16 #[.string (bs y.path)] W fun e w' => e = .returned (.string (bs y.path)) ∧ Below W.heap.size W w' := fun {l y} hy e W hW => by
        obtain ⟨hw, hl⟩ := resolve_link hy
        have hfy := fits_of (parseL_some (parseL_print hw hl))
        have h := dots_any (bs y.path) W hW (by rw [bs_size]; have := hfy.path; omega)
        rw [bs_list, e] at h
        exact h
      have hz := fun z (h : resolveL x (46 :: 47 :: s.data.toList) = some z) => resolve_stays wx (t := s.data.toList) (.inr rfl) h
      cases hy : resolveL x (47 :: s.data.toList) with
      | none =>
        rw [hy] at R1
        cases hz' : resolveL x (46 :: 47 :: s.data.toList) with
        | none => rw [hz'] at R2; exact hosts_no_no a s w hE hf x P1 (by omega) R1 R2
        | some z =>
          obtain ⟨e1, e2, e3, e4⟩ := hz z hz'
          rw [hz'] at R2
          unfold ParseOut at R2
          simp only [Option.getD_some, same_lk ⟨e1, e2, e3⟩] at R2
          exact hosts_no_ok a s w hE hf x z P1 (by omega) R1 R2 (dd hz' e4)
      | some y =>
        rw [hy] at R1
        by_cases h0 : s.size = 0
        · have hn : s.data.toList = [] := List.eq_nil_of_length_eq_zero (by rw [← size_list]; exact h0)
          obtain ⟨f1, f2, f3, f4⟩ := resolve_stays wx (t := s.data.toList) (.inl ⟨rfl, by rw [hn]; simp⟩) hy
          unfold ParseOut at R1
          simp only [Option.getD_some, same_lk ⟨f1, f2, f3⟩] at R1
          obtain rfl : s = ⟨#[]⟩ := by
            obtain ⟨⟨l⟩⟩ := s
            simp at hn
            rw [hn]
          cases hz' : resolveL x (46 :: 47 :: (⟨#[]⟩ : ByteArray).data.toList) with
          | none => rw [hz'] at R2; exact hosts_nil_no a w hE hf x y P1 R1 R2 (dd hy f4)
          | some z =>
            obtain ⟨e1, e2, e3, e4⟩ := hz z hz'
            rw [hz'] at R2
            unfold ParseOut at R2
            simp only [Option.getD_some, same_lk ⟨e1, e2, e3⟩] at R2
            exact hosts_nil_ok a w hE hf x y z P1 R1 R2 (dd hy f4) (dd hz' e4)
        · have hp : 0 < s.size := by omega
          by_cases hc : s[0] = 47
          · -- two slashes
            cases hz' : resolveL x (46 :: 47 :: s.data.toList) with
            | none => rw [hz'] at R2; exact hosts_any_no a s w hE hf x y P1 (by omega) hp hc R1 R2
            | some z =>
              obtain ⟨e1, e2, e3, e4⟩ := hz z hz'
              rw [hz'] at R2
              unfold ParseOut at R2
              simp only [Option.getD_some, same_lk ⟨e1, e2, e3⟩] at R2
              exact hosts_any_ok a s w hE hf x y z P1 (by omega) hp hc R1 R2 (dd hz' e4)
          · have hh : s.data.toList.head? ≠ some 47 := by
              rw [List.head?_eq_getElem?, getE? s 0 hp]
              intro e; injection e with e; exact hc e
            obtain ⟨f1, f2, f3, f4⟩ := resolve_stays wx (t := s.data.toList) (.inl ⟨rfl, hh⟩) hy
            unfold ParseOut at R1
            simp only [Option.getD_some, same_lk ⟨f1, f2, f3⟩] at R1
            cases hz' : resolveL x (46 :: 47 :: s.data.toList) with
            | none => rw [hz'] at R2; exact hosts_ok_no a s w hE hf x y P1 (by omega) hp hc R1 R2 (dd hy f4)
            | some z =>
              obtain ⟨e1, e2, e3, e4⟩ := hz z hz'
              rw [hz'] at R2
              unfold ParseOut at R2
              simp only [Option.getD_some, same_lk ⟨e1, e2, e3⟩] at R2
              exact hosts_ok_ok a s w hE hf x y z P1 (by omega) hp hc R1 R2 (dd hy f4) (dd hz' e4)

end Go.Proofs.YtlgggibdgfdmhaaGreatDoor
