/-
  A cluster, in plain words; no program in it.
-/
import Derived.Below
namespace Go.Proofs.Ytegoadhnilmchaa
/-- a cluster: its place, its bytes, its cells, its kind. -/
structure Ct where
  pl : Nat
  len : Nat
  cells : Int
  kind : Nat
end Go.Proofs.Ytegoadhnilmchaa
