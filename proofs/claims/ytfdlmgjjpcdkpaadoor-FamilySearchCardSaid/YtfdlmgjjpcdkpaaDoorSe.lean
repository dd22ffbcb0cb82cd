/- Walks: the reference on members, their number, the set of some numbers, the first n numbers. -/
import Derived.Test.YtfdlmgjjpcdkpaaDoorSd
namespace Go.Proofs.YtfdlmgjjpcdkpaaDoor
open Go.RowKit
/-- The set of the first n numbers, and the error. -/
def fullS (n : Int) : Nat × Int := if n < 0 ∨ 12 < n then (0, 7) else (2 ^ n.toNat - 1, 0)
theorem full16 {k : Nat} (hk : k < 16) : IntKind.u16.wrap (IntKind.u16.wrap ((2 : Int) ^ k) - 1) = ((2 ^ k - 1 : Nat) : Int) := by
  rw [pow16 hk, wrap16]
  have : 2 ^ k < 2 ^ 16 := Nat.pow_lt_pow_right (by omega) hk
  have := Nat.two_pow_pos k
  omega
end Go.Proofs.YtfdlmgjjpcdkpaaDoor
