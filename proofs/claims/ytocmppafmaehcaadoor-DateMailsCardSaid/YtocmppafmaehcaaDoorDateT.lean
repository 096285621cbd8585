/-
  Plain facts on the reader's two forms, told as its steps one behind the other. No conditions.
-/
import Derived.Test.YtocmppafmaehcaaDoorDateS
namespace Go.Proofs.YtocmppafmaehcaaDoor

def yearF (l : List UInt8) : Int × List UInt8 × Bool :=
  match digF 2 4 l with
  | ((y, k), l1, o1) => if k = 3 then (y, l1, false) else if k = 2 then (if y < 50 then (y + 2000, l1, o1) else (y + 1900, l1, o1)) else (y, l1, o1)
def zGMT : List (List UInt8) := [[71, 77, 84], [85, 84], [90]]
def zEDT : List (List UInt8) := [[69, 68, 84]]
def zEST : List (List UInt8) := [[69, 83, 84], [67, 68, 84]]
def zCST : List (List UInt8) := [[67, 83, 84], [77, 68, 84]]
def zMST : List (List UInt8) := [[77, 83, 84], [80, 68, 84]]
def zPST : List (List UInt8) := [[80, 83, 84]]
def mzF (l : List UInt8) : Int × List UInt8 × Bool :=
  if tkB zGMT l = true then (0, tkL zGMT l, true)
  else if tkB zEDT l = true then (-14400, tkL zEDT l, true)
  else if tkB zEST l = true then (-18000, tkL zEST l, true)
  else if tkB zCST l = true then (-21600, tkL zCST l, true)
  else if tkB zMST l = true then (-25200, tkL zMST l, true)
  else if tkB zPST l = true then (-28800, tkL zPST l, true)
  else offF [] l
/-- A moment: year, month, day, hour, minute, second, seconds ahead. -/
structure Mom where
  y : Int
  mo : Int
  d : Int
  h : Int
  mi : Int
  s : Int
  a : Int
def atomF (l0 : List UInt8) : Mom × List UInt8 × Bool :=
  match digF 4 4 l0 with
  | ((y, _), l1, o1) => match oneF [[45]] l1 with
    | (_, l2, o2) => match twoF 1 12 l2 with
      | (mo, l3, o3) => match oneF [[45]] l3 with
        | (_, l4, o4) => match twoF 1 31 l4 with
          | (d, l5, o5) => match oneF [[84], [116], [32]] l5 with
            | (_, l6, o6) => match twoF 0 23 l6 with
              | (h, l7, o7) => match oneF [[58]] l7 with
                | (_, l8, o8) => match twoF 0 59 l8 with
                  | (mi, l9, o9) => match oneF [[58]] l9 with
                    | (_, l10, o10) => match twoF 0 60 l10 with
                      | (s, l11, o11) => match skipF l11 with
                        | (l12, o12) => match zonF l12 with
                          | (a, l13, o13) => (⟨y, mo, d, h, mi, s, a⟩, l13, o1 && (o2 && (o3 && (o4 && (o5 && (o6 && (o7 && (o8 && (o9 && (o10 && (o11 && (o12 && o13))))))))))))
def headF (l : List UInt8) : List UInt8 × Bool := if tkB weekN l = true then ((oneF [[44, 32]] (tkL weekN l)).2.1, (oneF [[44, 32]] (tkL weekN l)).2.2) else (l, true)
def secF (l : List UInt8) : Int × List UInt8 × Bool := if tkB [[58]] l = true then twoF 0 60 (tkL [[58]] l) else (0, l, true)
def mailF (l0 : List UInt8) : Mom × List UInt8 × Bool :=
  match headF l0 with
  | (l1, o1) => match digF 1 2 l1 with
    | ((d, _), l2, o2) => match oneF [[32]] l2 with
      | (_, l3, o3) => match oneF monthsN l3 with
        | (i, l4, o4) => match oneF [[32]] l4 with
          | (_, l5, o5) => match yearF l5 with
            | (y, l6, o6) => match oneF [[32]] l6 with
              | (_, l7, o7) => match twoF 0 23 l7 with
                | (h, l8, o8) => match oneF [[58]] l8 with
                  | (_, l9, o9) => match twoF 0 59 l9 with
                    | (mi, l10, o10) => match secF l10 with
                      | (s, l11, o11) => match oneF [[32]] l11 with
                        | (_, l12, o12) => match mzF l12 with
                          | (a, l13, o13) => (⟨y, i + 1, d, h, mi, s, a⟩, l13, o1 && (o2 && (decide (1 ≤ d) && (o3 && (o4 && (o5 && (o6 && (o7 && (o8 && (o9 && (o10 && (o11 && (o12 && o13)))))))))))))
/-- What is answered of a moment that was read to its end. -/
def ansF (f : Mom × List UInt8 × Bool) : Option Int :=
  if f.2.2 = true ∧ f.2.1 = [] ∧ 1 ≤ f.1.y ∧ f.1.d ≤ lenM f.1.y f.1.mo then some (86400 * (dnum f.1.y f.1.mo f.1.d - 719162) + (f.1.h * 3600 + f.1.mi * 60 + min f.1.s 59) - f.1.a) else none
end Go.Proofs.YtocmppafmaehcaaDoor
