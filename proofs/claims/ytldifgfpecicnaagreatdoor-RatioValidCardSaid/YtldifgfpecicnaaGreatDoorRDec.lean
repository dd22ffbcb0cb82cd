/- Decimal of the reference: whole. -/
import Derived.Test.YtldifgfpecicnaaGreatDoorR14
import Derived.Test.YtldifgfpecicnaaGreatDoorR15
namespace Go.Proofs.YtldifgfpecicnaaGreatDoor
open Go.RowKit

theorem rdecRQ {w : World} {v : Value} {r : Rat} (h : Rz w v r) (d : Nat) (hd : d ≤ 20) : Calls Tryz.prog 42 #[v, .int .i64 (d : Int)] w (PSE w (decS r d) (decK r d)) := by
  unfold decS decK decB
  cases hb : okB (nm r * 10 ^ d) with
  | false => exact rdecE d v w h hd (by omega) (by omega) hb
  | true =>
    by_cases hq : (nm r * 10 ^ d).tdiv (dn r) < 0
    · by_cases h0 : 0 < d
      · exact rdecDm d _ v w h hd (by omega) (by omega) hb hq h0 rfl
      · exact rdecPm d _ v w h hd (by omega) (by omega) hb hq h0 rfl
    · by_cases h0 : 0 < d
      · exact rdecDn d _ v w h hd (by omega) (by omega) hb (Int.not_lt.1 hq) h0 rfl
      · exact rdecPn d _ v w h hd (by omega) (by omega) hb (Int.not_lt.1 hq) h0 rfl

end Go.Proofs.YtldifgfpecicnaaGreatDoor
