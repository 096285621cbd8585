/-
  The disk of layer 6 as plain functions: paths, names, changes, what a crash leaves, as the program has it. No conditions.
-/
import Derived.Lib.Hide
namespace Go.Proofs.YtklcjimmbkpbdaaGreatDoor
abbrev Bs := List UInt8
section
variable {κ β : Type} [DecidableEq κ]
def look (l : List (κ × β)) (p : κ) : Option β := (l.find? fun x => decide (x.1 = p)).map (·.2)
end
abbrev Nm := List (Bs × Nat)
structure QB where
 now : Bs
 kept : Nat
structure QC where
 frm : Bs
 to : Bs
 body : Option Nat
structure Q where
 room : Int
 bodies : List QB
 names : Nm
 kept : Nm
 changes : List (Bs × List QC)
 loose : List (Nat × Unit)
 told : Bool
 ahead : Int
 once : Bool
structure Small (N : Nat) (q : Q) : Prop where
 nb : q.bodies.length ≤ N
 nn : q.names.length ≤ N
 nk : q.kept.length + (q.changes.map fun x => x.2.length).sum ≤ N
 nc : q.changes.length ≤ N
 nl : q.loose.length ≤ N
 now : ∀ b ∈ q.bodies, b.now.length ≤ N ∧ b.kept ≤ b.now.length
 kn : ∀ x ∈ q.names, x.1.length ≤ 161 ∧ x.2 < q.bodies.length
 kk : ∀ x ∈ q.kept, x.1.length ≤ 161 ∧ x.2 < q.bodies.length
 kc : ∀ x ∈ q.changes, x.1.length ≤ 161 ∧ ∀ c ∈ x.2, c.frm.length ≤ 161 ∧ c.to.length ≤ 161 ∧ ∀ k, c.body = some k → k < q.bodies.length
 kl : ∀ x ∈ q.loose, x.1 < q.bodies.length
 r0 : 0 ≤ q.room
 r1 : q.room ≤ 9223372036854775807
 a0 : -9223372036854775808 ≤ q.ahead
 a1 : q.ahead ≤ 9223372036854775807
 dn : (q.names.map (·.1)).Nodup
 dk : (q.kept.map (·.1)).Nodup
 dc : (q.changes.map (·.1)).Nodup
 dl : (q.loose.map (·.1)).Nodup
section
variable {κ β : Type} [DecidableEq κ]
end
end Go.Proofs.YtklcjimmbkpbdaaGreatDoor
