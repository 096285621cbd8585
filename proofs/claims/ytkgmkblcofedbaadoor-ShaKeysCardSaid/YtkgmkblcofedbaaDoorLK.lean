/-
  The law ShaKeys of layer 5. Conditions: the two tables of package sha hold what they are laid with.
-/
import Derived.Test.YtkgmkblcofedbaaDoorRK
import Derived.Test.YtkgmkblcofedbaaDoorSF
namespace Go.Proofs.YtkgmkblcofedbaaDoor
open Go.RowKit
open Go.Lib

theorem ret_bool {a b : Bool} (h : a = b) : Ending.returned (.bool a) = .returned (.bool b) := by rw [h]
set_option maxRecDepth 100000 in
set_option maxHeartbeats 1000000 in
theorem law_keys (A : Option Addr) (c : Nat) (ps : List ByteArray) (n : Nat) (hn : ps.length = n) (w : World) (hE : Env w) (hRT : RT w A ps) :
    Calls Tryd.prog 4 #[.slice A n c] w fun e w' => e = .returned (.bool true) ∧ Below w.heap.size w w' := by
  have hf := first_any w hE
  by_cases hbig : 20 < n
  · have h2 : (20 : Int) < (n : Int) := by omega
    go_enter Tryd.func4, Tryd.ntmps4
    go_wp2_with fail
    refine hf.mono ?_
    clear hf
    rintro e w1 ⟨rfl, B1⟩
    go_wp2
    go_ret
    exact ⟨rfl, B1⟩
  · have h2 : ¬ (20 : Int) < (n : Int) := by omega
    have HN := Lib.hid hn
    clear hn
    go_enter Tryd.func4, Tryd.ntmps4
    go_wp2_with fail
    refine hf.mono ?_
    clear hf
    rintro e w1 ⟨rfl, B1⟩
    go_wp2
    go_loopw [12] (fun ti wr => ∃ (k : Nat), k ≤ n ∧ ti = .int .i64 k ∧ Hid (∀ p ∈ ps.take k, p.size ≤ 60) ∧ Below w.heap.size w wr) (fun ti _ => n - (RowKit.intOf ti).toNat)
    case atStart => exact ⟨0, Nat.zero_le _, rfl, Lib.hid (fun p hp => by simp at hp), B1⟩
    case round =>
      clear B1
      obtain ⟨k, hk, rfl, hall, hbr⟩ := hrel
      by_cases hkn : k < n
      · obtain ⟨b, off, rfl, hbl, hcs⟩ := (hRT.below (Nat.le_refl _) hbr) (by rw [HN.out]; omega)
        have ck := hcs k (by rw [HN.out]; exact hkn)
        have hkp : k < ps.length := by rw [HN.out]; exact hkn
        obtain ⟨p, hp⟩ : ∃ p, ps.getD k default = p := ⟨_, rfl⟩
        rw [hp] at ck
        have hd : decide ((k : Int) < (n : Int)) = true := by simpa using (by omega : (k : Int) < n)
        by_cases h60 : 60 < p.size
        · have h3 : (60 : Int) < (p.size : Int) := by omega
          clear hcs hp hkp hall
          go_wp2
          go_ret
          exact ⟨rfl, hbr⟩
        · have h3 : ¬ (60 : Int) < (p.size : Int) := by omega
          have hnext : Hid (∀ q ∈ ps.take (k + 1), q.size ≤ 60) := Lib.hid (fun q hq => by
            rw [List.take_succ_eq_append_getElem hkp] at hq
            rcases List.mem_append.1 hq with hq | hq
            · exact hall.out q hq
            · have : ps[k] = p := by rw [← hp]; simp [List.getD, hkp]
              rw [this] at hq
              rw [List.mem_singleton.1 hq]; omega)
          clear hcs hp hkp hall
          go_wp2
          go_roundw
          case rel => exact ⟨k + 1, by omega, by go_num, hnext, hbr⟩
          case measure => simp [RowKit.intOf]; omega
      · have hd : decide ((k : Int) < (n : Int)) = false := by simpa using (by omega : (n : Int) ≤ k)
        have hsz : ∀ p ∈ ps, p.size ≤ 60 := fun p hp => hall.out p (by rw [List.take_of_length_le (by rw [HN.out]; omega)]; exact hp)
        obtain ⟨S, hS⟩ : ∃ S : ByteArray, ⟨(hexP (sumP (keyB (txts ps)))).toArray⟩ = S := ⟨_, rfl⟩
        have hp := key_any A c ps (by rw [HN.out]; omega) (fun p hp => by have := hsz p hp; omega) n HN.out wr (hE.after hbr) (hRT.below (Nat.le_refl _) hbr)
        have hr := fun (W : World) (hW : RT W A ps) => rkey_any A c ps hsz n HN.out (by omega) W hW
        rw [hS] at hp
        rw [hS] at hr
        have hbz := hbr.size
        have hRr := hRT.below (Nat.le_refl _) hbr
        clear hS hall hsz
        go_wp2_with fail
        refine hp.mono ?_
        clear hp
        rintro e w2 ⟨rfl, b⟩
        have B2 := hbr.trans (b.mono hbz)
        have hR2 := hRr.below (Nat.le_refl _) b
        have hz2 := B2.size
        clear b hbr hRr
        go_wp2_with fail
        refine (hr w2 hR2).mono ?_
        clear hr
        rintro e w3 ⟨rfl, b⟩
        have B3 := B2.trans (b.mono hz2)
        clear b B2
        go_wp2
        go_ret
        exact ⟨ret_bool (by simp), B3⟩
end Go.Proofs.YtkgmkblcofedbaaDoor
