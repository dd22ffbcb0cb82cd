/- The program's Small. -/
import Derived.Test.YtldifgfpecicnaaGreatDoorGE
import Derived.Test.YtldifgfpecicnaaGreatDoorGD
import Derived.Deep.RegionHeld3
namespace Go.Proofs.YtldifgfpecicnaaGreatDoor
open Go.RowKit

/-- The value as an int64, and the error. -/
def smV (z : Int) : Int := if -9223372036854775808 ≤ z ∧ z ≤ 9223372036854775807 then z else 0
def smE (z : Int) : Int := if -9223372036854775808 ≤ z ∧ z ≤ 9223372036854775807 then 0 else 7
theorem sm_ok {z : Int} (h1 : -9223372036854775808 ≤ z) (h2 : z ≤ 9223372036854775807) : smV z = z ∧ smE z = 0 := by unfold smV smE; rw [if_pos ⟨h1, h2⟩, if_pos ⟨h1, h2⟩]; exact ⟨rfl, rfl⟩
theorem sm_no {z : Int} (h : ¬ (-9223372036854775808 ≤ z ∧ z ≤ 9223372036854775807)) : smV z = 0 ∧ smE z = 7 := by unfold smV smE; rw [if_neg h, if_neg h]; exact ⟨rfl, rfl⟩
theorem negw (k : Nat) (h : k ≤ 9223372036854775808) : wrap64 (IntKind.u64.wrap (-(k : Int))) = -(k : Int) := by
  rw [IntKind.wrap_u64]; unfold wrap64; omega
theorem posw (k : Nat) (h : k ≤ 9223372036854775807) : IntKind.i64.wrap (k : Int) = (k : Int) := by
  rw [IntKind.wrap_i64]; omega
/-- What Small returns. -/
def RetSmall (w : World) (z : Int) (e : Ending) (w' : World) : Prop := e = .returned (.tuple #[.int .i64 (smV z), .int .i64 (smE z)]) ∧ Up w w'
theorem top64 (w : World) : Calls Tryz.prog 87 #[.int .u64 18446744073709551615] w (RetLim w 18446744073709551615) := split_any 18446744073709551615 w (by omega)
theorem top64_len : (lim 18446744073709551615).length ≤ 10 := by
  rw [lim_len_le]
  have h2 : bas 3 = 1000000000000000000000000000 := rfl
  have h3 : bas 3 ≤ bas 10 := bas_mono (by omega)
  omega

end Go.Proofs.YtldifgfpecicnaaGreatDoor
