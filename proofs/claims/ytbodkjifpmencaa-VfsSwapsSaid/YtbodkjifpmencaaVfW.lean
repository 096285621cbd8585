/-
  The law VfsSwaps on plain disks. No conditions.
-/
import Derived.Test.YtbodkjifpmencaaVfT
namespace Go.Proofs.Ytbodkjifpmencaa

def cP : QC := ⟨[112], [112], some 0⟩
def cQ : QC := ⟨[113], [113], some 1⟩
def cR : QC := ⟨[113], [112], some 1⟩
def sw1 (a : Bs) : Q := ⟨1048576, [⟨a, 0⟩], [([112], 0)], [], [([], [cP])], if a = [] then [] else [(0, ())], false, 0, false⟩
def sw2 (a : Bs) : Q := ⟨1048576, [⟨a, a.length⟩], [([112], 0)], [], [([], [cP])], [], false, 0, false⟩
def sw3 (a : Bs) : Q := ⟨1048576, [⟨a, a.length⟩], [([112], 0)], [([112], 0)], [], [], false, 0, false⟩
def sw4 (a : Bs) (m : Int) : Q := ⟨1048576, [⟨a, a.length⟩], [([112], 0)], [([112], 0)], [], [], true, m, false⟩
def sw5 (a b : Bs) (m : Int) : Q := ⟨1048576, [⟨a, a.length⟩, ⟨b, 0⟩], [([112], 0), ([113], 1)], [([112], 0)], [([], [cQ])], if b = [] then [] else [(1, ())], true, m, false⟩
def sw6 (a b : Bs) (m : Int) : Q := ⟨1048576, [⟨a, a.length⟩, ⟨b, b.length⟩], [([112], 0), ([113], 1)], [([112], 0)], [([], [cQ])], [], true, m, false⟩
def sw7 (a b : Bs) (m : Int) : Q := ⟨1048576, [⟨a, a.length⟩, ⟨b, b.length⟩], [([112], 1)], [([112], 0)], [([], [cQ, cR])], [], true, m, false⟩
def sw8 (b : Bs) (m : Int) : Q := ⟨1048576, [⟨[], 0⟩, ⟨b, b.length⟩], [([112], 1)], [([112], 1)], [], [], true, m, false⟩
theorem strike_ok {q : Q} (h : q.told = true) (ha : 0 < q.ahead) : strikeQ q = (false, { q with ahead := q.ahead - 1 }) := by unfold strikeQ; rw [if_pos h, if_pos ha]
theorem strike_no {q : Q} (h : q.told = true) (ha : q.ahead = 0) (ho : q.once = false) : strikeQ q = (true, q) := by
  unfold strikeQ
  rw [if_pos h, if_neg (by omega), ho]
  obtain ⟨a, b, c, d, e, f, g, i, j⟩ := q
  simp at h ho
  subst h ho
  rfl
theorem begin_ok {q : Q} (h : q.told = true) (ha : 0 < q.ahead) (r : Bool) (hr : r = true) : beginQ q r = (0, { q with ahead := q.ahead - 1 }) := by unfold beginQ; rw [if_pos hr, strike_ok h ha]
theorem begin_no {q : Q} (h : q.told = true) (ha : q.ahead = 0) (ho : q.once = false) (r : Bool) (hr : r = true) : beginQ q r = (62, q) := by unfold beginQ; rw [if_pos hr, strike_no h ha ho]
theorem sw1_eq (a : Bs) (h : a.length ≤ 1000) : writeQ (qNew 1048576) [112] a = (0, sw1 a) := by
  have hr : hasRoomQ (qNew 1048576) ((a.length : Int) - sizeO (qNew 1048576) (look (qNew 1048576).names [112])) = true := by
    unfold hasRoomQ
    exact decide_eq_true (by show (a.length : Int) - ((0 : Nat) : Int) ≤ max 1048576 0 - ((0 : Nat) : Int); omega)
  unfold writeQ
  rw [show beginQ (qNew 1048576) (rightL [112]) = (0, qNew 1048576) from rfl]
  dsimp only
  rw [if_pos rfl, if_pos hr]
  unfold sw1 changeQ newBodyQ extendQ
  by_cases ha : a = []
  · subst ha; rfl
  · rw [if_neg ha, if_neg ha]; rfl
theorem sw2_eq (a : Bs) : syncQ (sw1 a) [112] = (0, sw2 a) := by
  unfold sw1
  by_cases ha : a = []
  · subst ha; rfl
  · rw [if_neg ha]; rfl
theorem sw3_eq (a : Bs) : syncDirQ (sw2 a) [] = (0, sw3 a) := by rfl
theorem sw4_eq (a : Bs) (m : Int) : failQ (sw3 a) m false = sw4 a m := by rfl
theorem sw5_eq (a b : Bs) (m : Int) (ha : a.length ≤ 1000) (hb : b.length ≤ 1000) (hm : 0 < m) : writeQ (sw4 a m) [113] b = (0, sw5 a b (m - 1)) := by
  have hr : hasRoomQ (sw4 a (m - 1)) ((b.length : Int) - sizeO (sw4 a (m - 1)) (look (sw4 a (m - 1)).names [113])) = true := by
    unfold hasRoomQ
    exact decide_eq_true (by show (b.length : Int) - ((0 : Nat) : Int) ≤ 1048576 - ((a.length + 0 : Nat) : Int); omega)
  unfold writeQ
  rw [begin_ok (q := sw4 a m) rfl hm (rightL [113]) rfl]
  rw [show ({ sw4 a m with ahead := (sw4 a m).ahead - 1 } : Q) = sw4 a (m - 1) from rfl]
  dsimp only
  rw [if_pos rfl, if_pos hr]
  unfold sw5 changeQ newBodyQ extendQ
  by_cases hn : b = []
  · subst hn; rfl
  · rw [if_neg hn, if_neg hn]; rfl
theorem sw5_no (a b : Bs) : writeQ (sw4 a 0) [113] b = (62, sw4 a 0) := by
  unfold writeQ
  rw [begin_no (q := sw4 a 0) rfl rfl rfl (rightL [113]) rfl]
  rfl
theorem sw6_eq (a b : Bs) (m : Int) (hm : 0 < m) : syncQ (sw5 a b m) [113] = (0, sw6 a b (m - 1)) := by
  unfold syncQ
  rw [begin_ok (q := sw5 a b m) rfl hm (rightL [113]) rfl]
  unfold sw5
  by_cases hn : b = []
  · subst hn; rfl
  · rw [if_neg hn]; rfl
theorem sw6_no (a b : Bs) : syncQ (sw5 a b 0) [113] = (62, sw5 a b 0) := by
  unfold syncQ
  rw [begin_no (q := sw5 a b 0) rfl rfl rfl (rightL [113]) rfl]
  rfl
theorem sw7_eq (a b : Bs) (m : Int) (hm : 0 < m) : renameQ (sw6 a b m) [113] [112] = (0, sw7 a b (m - 1)) := by
  unfold renameQ
  rw [begin_ok (q := sw6 a b m) rfl hm (rightL [113] && rightL [112] && dirL [113] == dirL [112]) rfl]
  rfl
theorem sw7_no (a b : Bs) : renameQ (sw6 a b 0) [113] [112] = (62, sw6 a b 0) := by
  unfold renameQ
  rw [begin_no (q := sw6 a b 0) rfl rfl rfl (rightL [113] && rightL [112] && dirL [113] == dirL [112]) rfl]
  rfl
theorem sw8_eq (a b : Bs) (m : Int) (hm : 0 < m) : syncDirQ (sw7 a b m) [] = (0, sw8 b (m - 1)) := by
  unfold syncDirQ
  rw [begin_ok (q := sw7 a b m) rfl hm (([] : Bs) == [] || isPartL []) rfl]
  rfl
theorem sw8_no (a b : Bs) : syncDirQ (sw7 a b 0) [] = (62, sw7 a b 0) := by
  unfold syncDirQ
  rw [begin_no (q := sw7 a b 0) rfl rfl rfl (([] : Bs) == [] || isPartL []) rfl]
  rfl
def rd (q : Q) : Option Bs := (look q.kept [112]).map fun k => (qbody q k).now
theorem crash_a0 (q : Q) (ks : List Int) (hl : q.loose = []) : crashA q ks = (q, ks) := by unfold crashA; rw [hl]; simp
theorem crash_a1 (q : Q) (ks : List Int) (hl : q.loose = [(1, ())]) : crashA q ks = stay1Q (q, ks) 1 := by unfold crashA; rw [hl]; simp
theorem crash_b0 (s : Q × List Int) (hc : s.1.changes = []) : crashB s = ({ s.1 with loose := [] }, s.2) := by unfold crashB; rw [hc]; simp
theorem crash_b1 (s : Q × List Int) (cs : List QC) (hc : s.1.changes = [([], cs)]) : crashB s = keepDir1Q ({ s.1 with loose := [] }, s.2) [] := by unfold crashB; rw [hc]; simp
theorem crash_rd0 (q : Q) (ks : List Int) (hl : q.loose = []) (hc : q.changes = []) : readQ (crashQ q ks) [112] = rd { q with loose := [] } := by
  unfold crashQ
  rw [crash_a0 q ks hl, crash_b0 _ hc]
  rfl
theorem crash_rd1 (q : Q) (ks : List Int) (cs : List QC) (hl : q.loose = []) (hc : q.changes = [([], cs)]) : ∃ n, n ≤ cs.length ∧ readQ (crashQ q ks) [112] = rd (keepQ { q with loose := [] } (cs.take n)) := by
  have he : ((look q.changes []).getD []) = cs := by rw [hc]; rfl
  refine ⟨(nextQ ks cs.length).1, next_le _ _, ?_⟩
  unfold crashQ
  rw [crash_a0 q ks hl, crash_b1 _ cs hc]
  unfold keepDir1Q
  dsimp only
  rw [he]
  rfl
theorem crash_rd2 (q : Q) (ks : List Int) (cs : List QC) (hl : q.loose = [(1, ())]) (hc : q.changes = [([], cs)]) : ∃ n x, n ≤ cs.length ∧ readQ (crashQ q ks) [112] = rd (keepQ { q with loose := [], bodies := q.bodies.set 1 x } (cs.take n)) := by
  have he : ((look q.changes []).getD []) = cs := by rw [hc]; rfl
  obtain ⟨x, hx⟩ : ∃ x, (stay1Q (q, ks) 1).1.bodies = q.bodies.set 1 x := ⟨_, rfl⟩
  refine ⟨(nextQ (stay1Q (q, ks) 1).2 cs.length).1, x, next_le _ _, ?_⟩
  rw [← hx]
  unfold crashQ
  rw [crash_a1 q ks hl, crash_b1 _ cs hc]
  unfold keepDir1Q
  dsimp only
  rw [show (look (stay1Q (q, ks) 1).1.changes []).getD [] = cs from he]
  rfl
theorem upto1 {n : Nat} (h : n ≤ 1) : n = 0 ∨ n = 1 := by omega
theorem upto2 {n : Nat} (h : n ≤ 2) : n = 0 ∨ n = 1 ∨ n = 2 := by omega
theorem end0 (a : Bs) (m : Int) (ks : List Int) : readQ (crashQ (sw4 a m) ks) [112] = some a := crash_rd0 _ _ rfl rfl
theorem end1 (a b : Bs) (m : Int) (ks : List Int) : readQ (crashQ (sw5 a b m) ks) [112] = some a := by
  by_cases hb : b = []
  · obtain ⟨n, hn, h⟩ := crash_rd1 (sw5 a b m) ks [cQ] (by unfold sw5; rw [if_pos hb]) rfl
    rw [h]
    rcases upto1 hn with rfl | rfl <;> rfl
  · obtain ⟨n, x, hn, h⟩ := crash_rd2 (sw5 a b m) ks [cQ] (by unfold sw5; rw [if_neg hb]) rfl
    rw [h]
    rcases upto1 hn with rfl | rfl <;> rfl
theorem end2 (a b : Bs) (m : Int) (ks : List Int) : readQ (crashQ (sw6 a b m) ks) [112] = some a := by
  obtain ⟨n, hn, h⟩ := crash_rd1 (sw6 a b m) ks [cQ] rfl rfl
  rw [h]
  rcases upto1 hn with rfl | rfl <;> rfl
theorem end3 (a b : Bs) (m : Int) (ks : List Int) : readQ (crashQ (sw7 a b m) ks) [112] = some a ∨ readQ (crashQ (sw7 a b m) ks) [112] = some b := by
  obtain ⟨n, hn, h⟩ := crash_rd1 (sw7 a b m) ks [cQ, cR] rfl rfl
  rw [h]
  rcases upto2 hn with rfl | rfl | rfl
  · exact .inl rfl
  · exact .inl rfl
  · exact .inr rfl
theorem end4 (b : Bs) (m : Int) (ks : List Int) : readQ (crashQ (sw8 b m) ks) [112] = some b := crash_rd0 _ _ rfl rfl
section
variable (a b : Bs) (ha : a.length ≤ 1000) (hb : b.length ≤ 1000)
include ha
theorem swS1 : Small 2000 (sw1 a) := by have := (Small.new 1048576 (by decide)).write [112] a; rw [sw1_eq a ha] at this; exact this.mono (by omega)
theorem swS2 : Small 2000 (sw2 a) := by have := (swS1 a ha).sync [112]; rw [sw2_eq a] at this; exact this
theorem swS3 : Small 2000 (sw3 a) := by have := (swS2 a ha).syncDir []; rw [sw3_eq a] at this; exact this
theorem swS4 (m : Int) (h0 : 0 ≤ m) (h1 : m ≤ 10) : Small 2000 (sw4 a m) := by have := (swS3 a ha).fail m false (by omega) (by omega); rw [sw4_eq a m] at this; exact this
include hb
theorem swS5 (m : Int) (h0 : 0 ≤ m) (h1 : m ≤ 9) : Small 4000 (sw5 a b m) := by have := (swS4 a ha (m + 1) (by omega) (by omega)).write [113] b; rw [sw5_eq a b (m + 1) ha hb (by omega), show m + 1 - 1 = m by omega] at this; exact this.mono (by omega)
theorem swS6 (m : Int) (h0 : 0 ≤ m) (h1 : m ≤ 8) : Small 4000 (sw6 a b m) := by have := (swS5 a b ha hb (m + 1) (by omega) (by omega)).sync [113]; rw [sw6_eq a b (m + 1) (by omega), show m + 1 - 1 = m by omega] at this; exact this
theorem swS7 (m : Int) (h0 : 0 ≤ m) (h1 : m ≤ 7) : Small 4001 (sw7 a b m) := by have := (swS6 a b ha hb (m + 1) (by omega) (by omega)).rename [113] [112]; rw [sw7_eq a b (m + 1) (by omega), show m + 1 - 1 = m by omega] at this; exact this
theorem swS8 (m : Int) (h0 : 0 ≤ m) (h1 : m ≤ 6) : Small 4001 (sw8 b m) := by have := (swS7 a b ha hb (m + 1) (by omega) (by omega)).syncDir []; rw [sw8_eq a b (m + 1) (by omega), show m + 1 - 1 = m by omega] at this; exact this
end
end Go.Proofs.Ytbodkjifpmencaa
