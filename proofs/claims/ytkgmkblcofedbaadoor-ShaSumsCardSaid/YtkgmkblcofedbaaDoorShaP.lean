/-
  SHA-256 in plain functions: rotations, the schedule of a block, a round, a block's compression, the padding, the digest of bytes; the tables by primes and roots. No conditions.
-/
import Derived.Below
namespace Go.Proofs.YtkgmkblcofedbaaDoor

abbrev W32 := BitVec 32
def rotr (x : W32) (n : Nat) : W32 := x >>> n ||| x <<< (32 - n)
def sg0 (x : W32) : W32 := rotr x 7 ^^^ rotr x 18 ^^^ x >>> 3
def sg1 (x : W32) : W32 := rotr x 17 ^^^ rotr x 19 ^^^ x >>> 10
def bg0 (x : W32) : W32 := rotr x 2 ^^^ rotr x 13 ^^^ rotr x 22
def bg1 (x : W32) : W32 := rotr x 6 ^^^ rotr x 11 ^^^ rotr x 25
def chs (e f g : W32) : W32 := e &&& f ||| ~~~e &&& g
def maj (a b c : W32) : W32 := a &&& b ||| a &&& c ||| b &&& c
/-- The word of four bytes, the greatest first. -/
def be4 (a b c d : UInt8) : W32 := BitVec.ofNat 32 (a.toNat * 16777216 + b.toNat * 65536 + c.toNat * 256 + d.toNat)
def wordAt (l : List UInt8) (i : Nat) : W32 := be4 (l.getD (4 * i) 0) (l.getD (4 * i + 1) 0) (l.getD (4 * i + 2) 0) (l.getD (4 * i + 3) 0)
/-- The first words of a block. -/
def base (l : List UInt8) (n : Nat) : List W32 := (List.range n).map (wordAt l)
/-- The word that comes next. -/
def nextW (w : List W32) : W32 := w.getD (w.length - 16) 0 + sg0 (w.getD (w.length - 15) 0) + w.getD (w.length - 7) 0 + sg1 (w.getD (w.length - 2) 0)
def grow : Nat → List W32 → List W32
  | 0, w => w
  | n + 1, w => grow n w ++ [nextW (grow n w)]
def sched (l : List UInt8) : List W32 := grow 48 (base l 16)
structure St where
  a : W32
  b : W32
  c : W32
  d : W32
  e : W32
  f : W32
  g : W32
  h : W32
def tOne (s : St) (k w : W32) : W32 := s.h + bg1 s.e + chs s.e s.f s.g + k + w
def tTwo (s : St) : W32 := bg0 s.a + maj s.a s.b s.c
def rnd (s : St) (k w : W32) : St := ⟨tOne s k w + tTwo s, s.a, s.b, s.c, s.d + tOne s k w, s.e, s.f, s.g⟩
/-- So many rounds. -/
def rnds (K W : List W32) : Nat → St → St
  | 0, s => s
  | n + 1, s => rnd (rnds K W n s) (K.getD n 0) (W.getD n 0)
def stOf (h : List W32) : St := ⟨h.getD 0 0, h.getD 1 0, h.getD 2 0, h.getD 3 0, h.getD 4 0, h.getD 5 0, h.getD 6 0, h.getD 7 0⟩
def addSt (s t : St) : St := ⟨s.a + t.a, s.b + t.b, s.c + t.c, s.d + t.d, s.e + t.e, s.f + t.f, s.g + t.g, s.h + t.h⟩
def lstOf (s : St) : List W32 := [s.a, s.b, s.c, s.d, s.e, s.f, s.g, s.h]
/-- A block mixed into the state. -/
def comp (K : List W32) (s : St) (l : List UInt8) : St := addSt s (rnds K (sched l) 64 s)
/-- Eight bytes of a number, the greatest first. -/
def be8 (n : Nat) : List UInt8 := (List.range 8).map fun i => UInt8.ofNat (n / 2 ^ (56 - 8 * i))
def nou (n : Nat) : Nat := (119 - n % 64) % 64
def tailL (n : Nat) : List UInt8 := 128 :: (List.replicate (nou n) 0 ++ be8 (8 * n))
def padL (l : List UInt8) : List UInt8 := l ++ tailL l.length
/-- The blocks of a text. -/
def chunks : Nat → List UInt8 → List (List UInt8)
  | 0, _ => []
  | n + 1, l => l.take 64 :: chunks n (l.drop 64)
def blks (l : List UInt8) : List (List UInt8) := chunks (l.length / 64) l
def wbytes (x : W32) : List UInt8 := [UInt8.ofNat (x.toNat / 16777216), UInt8.ofNat (x.toNat / 65536), UInt8.ofNat (x.toNat / 256), UInt8.ofNat x.toNat]
def outL (s : St) : List UInt8 := (lstOf s).flatMap wbytes
def H0 : St := ⟨1779033703#32, 3144134277#32, 1013904242#32, 2773480762#32, 1359893119#32, 2600822924#32, 528734635#32, 1541459225#32⟩
def KL : List Nat := [1116352408, 1899447441, 3049323471, 3921009573, 961987163, 1508970993, 2453635748, 2870763221, 3624381080, 310598401, 607225278, 1426881987, 1925078388, 2162078206, 2614888103, 3248222580, 3835390401, 4022224774, 264347078, 604807628, 770255983, 1249150122, 1555081692, 1996064986, 2554220882, 2821834349, 2952996808, 3210313671, 3336571891, 3584528711, 113926993, 338241895, 666307205, 773529912, 1294757372, 1396182291, 1695183700, 1986661051, 2177026350, 2456956037, 2730485921, 2820302411, 3259730800, 3345764771, 3516065817, 3600352804, 4094571909, 275423344, 430227734, 506948616, 659060556, 883997877, 958139571, 1322822218, 1537002063, 1747873779, 1955562222, 2024104815, 2227730452, 2361852424, 2428436474, 2756734187, 3204031479, 3329325298]
def K0 : List W32 := KL.map (BitVec.ofNat 32)
def sumS (l : List UInt8) : St := (blks (padL l)).foldl (comp K0) H0
/-- The digest. -/
def sumP (l : List UInt8) : List UInt8 := outL (sumS l)
def dgt (n : Nat) : UInt8 := ([48, 49, 50, 51, 52, 53, 54, 55, 56, 57, 97, 98, 99, 100, 101, 102] : List UInt8).getD n 0
def hexP (l : List UInt8) : List UInt8 := l.flatMap fun b => [dgt (b.toNat / 16), dgt (b.toNat % 16)]
def keyB (ps : List (List UInt8)) : List UInt8 := ps.flatMap fun p => be8 p.length ++ p
theorem chunks_append : ∀ (m k : Nat) (a r : List UInt8), a.length = 64 * m → chunks (m + k) (a ++ r) = chunks m a ++ chunks k r
  | 0, k, a, r, h => by
    obtain rfl : a = [] := List.eq_nil_of_length_eq_zero (by omega)
    simp [chunks]
  | m + 1, k, a, r, h => by
    rw [show m + 1 + k = (m + k) + 1 by omega]
    simp only [chunks]
    rw [List.take_append_of_le_length (by omega), List.drop_append_of_le_length (by omega), chunks_append m k (a.drop 64) r (by rw [List.length_drop]; omega)]
    rfl
theorem chunks_snoc (m : Nat) (a g : List UInt8) (h : a.length = 64 * m) (hg : g.length = 64) : chunks (m + 1) (a ++ g) = chunks m a ++ [g] := by
  rw [chunks_append m 1 a g h]
  simp only [chunks]
  rw [List.take_of_length_le (by omega)]
theorem padL_length (l : List UInt8) : ∃ q, (padL l).length = 64 * q := by
  refine ⟨(l.length + 9 + nou l.length) / 64, ?_⟩
  have h8 : ∀ n, (be8 n).length = 8 := fun n => by simp [be8]
  have : (padL l).length = l.length + 9 + nou l.length := by simp [padL, tailL, h8]; omega
  rw [this]
  unfold nou
  omega

/-! ### The tables -/
/-- One step of the search for primes. -/
def isP (ps : List Nat) (p : Nat) : Bool := ps.all fun q => p % q != 0
def primeStep (s : List Nat × Nat) : List Nat × Nat := (if isP s.1 s.2 then s.1 ++ [s.2] else s.1, s.2 + 1)
def rootT (p deg y : Nat) : Bool := if deg = 2 then decide (y * y ≤ p * 18446744073709551616) else decide (y * y * y ≤ p * 79228162514264337593543950336)
def rootS (p deg : Nat) : Nat → Nat → Nat
  | 0, x => x
  | n + 1, x => rootS p deg n (if rootT p deg (x + 2 ^ n) then x + 2 ^ n else x)
def rootP (p deg : Nat) : Nat := rootS p deg 36 0 % 4294967296
def primesL : List Nat := [2, 3, 5, 7, 11, 13, 17, 19, 23, 29, 31, 37, 41, 43, 47, 53, 59, 61, 67, 71, 73, 79, 83, 89, 97, 101, 103, 107, 109, 113, 127, 131, 137, 139, 149, 151, 157, 163, 167, 173, 179, 181, 191, 193, 197, 199, 211, 223, 227, 229, 233, 239, 241, 251, 257, 263, 269, 271, 277, 281, 283, 293, 307, 311]
set_option maxRecDepth 100000 in
theorem roots3 : primesL.map (fun p => rootP p 3) = KL := by decide +kernel
set_option maxRecDepth 100000 in
theorem roots2 : (primesL.take 8).map (fun p => BitVec.ofNat 32 (rootP p 2)) = lstOf H0 := by decide +kernel
set_option maxRecDepth 100000 in
theorem sum_abc : hexP (sumP [97, 98, 99]) = "ba7816bf8f01cfea414140de5dae2223b00361a396177a9cb410ff61f20015ad".toUTF8.data.toList := by decide +kernel
set_option maxRecDepth 100000 in
theorem sum_none : (sumP []).head? = some 227 := by decide +kernel
end Go.Proofs.YtkgmkblcofedbaaDoor
