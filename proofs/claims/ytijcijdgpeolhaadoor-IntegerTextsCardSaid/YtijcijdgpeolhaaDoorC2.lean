/- The reference's Neg, Abs, Add, Sub, Mul. -/
import Derived.Test.YtijcijdgpeolhaaDoorC1
import Derived.Deep.RegionHeld3
namespace Go.Proofs.YtijcijdgpeolhaaDoor
open Go.RowKit

theorem sgn_int (z : Int) (t : Bool) : sgn t z.natAbs = if t = decide (z < 0) then z else -z := by
  unfold sgn
  by_cases h : z < 0 <;> cases t <;> simp [h] <;> omega

end Go.Proofs.YtijcijdgpeolhaaDoor
