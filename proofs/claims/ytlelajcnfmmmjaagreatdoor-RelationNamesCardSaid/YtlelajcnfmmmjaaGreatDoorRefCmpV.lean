/- The contract of the document's own Compare of two versions. -/
import Derived.Test.YtlelajcnfmmmjaaGreatDoorRefCmp
namespace Go.Proofs.YtlelajcnfmmmjaaGreatDoor
open Go.RowKit
def cmpV (e1 : Int) (u1 r1 : List Nat) (e2 : Int) (u2 r2 : List Nat) : Int :=
  if e1 ≠ e2 then (if e1 < e2 then -1 else 1) else if cmpS u1 u2 ≠ 0 then cmpS u1 u2 else cmpS r1 r2
end Go.Proofs.YtlelajcnfmmmjaaGreatDoor
