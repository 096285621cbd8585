/-
  The walk of the document's Time of layer 3. Conditions: numbers that fit.
-/
import Derived.Test.YtocmppafmaehcaaDoorRF
import Derived.Test.YtocmppafmaehcaaDoorRG
namespace Go.Proofs.YtocmppafmaehcaaDoor
open Go.RowKit
open Go.Lib

theorem rTime_any (y mo d h mi s off : Int) (w : World) (bd : Bds y d h mi s off) : Calls Tryd.prog 30 #[partsV y mo d h mi s off] w (TimOut (timeP y mo d h mi s off) w) := by
  by_cases k0 : y < 1
  · rw [timeP_no (by omega)]
    exact rtime0 y mo d h mi s off w bd k0
  by_cases k1 : 9999 < y
  · rw [timeP_no (by omega)]
    exact rtime1 y mo d h mi s off w bd k0 k1
  by_cases k2 : mo < 1
  · rw [timeP_no (by omega)]
    exact rtime2 y mo d h mi s off w bd k0 k1 k2
  by_cases k3 : 12 < mo
  · rw [timeP_no (by omega)]
    exact rtime3 y mo d h mi s off w bd k0 k1 k2 k3
  by_cases k4 : d < 1
  · rw [timeP_no (by omega)]
    exact rtime4 y mo d h mi s off w bd k0 k1 k2 k3 k4
  by_cases k5 : lenM y mo < d
  · rw [timeP_no (by omega)]
    exact rtime5 y mo d h mi s off w bd k0 k1 k2 k3 k4 k5
  by_cases k6 : 23 < h
  · rw [timeP_no (by omega)]
    exact rtime6 y mo d h mi s off w bd k0 k1 k2 k3 k4 k5 k6
  by_cases k7 : 59 < mi
  · rw [timeP_no (by omega)]
    exact rtime7 y mo d h mi s off w bd k0 k1 k2 k3 k4 k5 k6 k7
  by_cases k8 : 60 < s
  · rw [timeP_no (by omega)]
    exact rtime8 y mo d h mi s off w bd k0 k1 k2 k3 k4 k5 k6 k7 k8
  rw [show timeP y mo d h mi s off = some (86400 * (dnum y mo d - 719162) + 3600 * h + 60 * mi + min s 59 - off) by unfold timeP; rw [if_pos (by omega)]]
  exact rtime9 y mo d h mi s off w bd k0 k1 k2 k3 k4 k5 k6 k7 k8
end Go.Proofs.YtocmppafmaehcaaDoor
