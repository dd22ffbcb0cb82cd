/- Walks: the set of some numbers, by both; members and their number by the reference. -/
import Derived.Test.YtfdlmgjjpcdkpaaDoorSc
namespace Go.Proofs.YtfdlmgjjpcdkpaaDoor
open Go.RowKit

/-- The set of some numbers, beside those in acc, and the error. -/
def ofS (acc : Nat) : List Int → Nat × Int
  | [] => (acc, 0)
  | i :: r => if (addS acc i).2 = 0 then ofS (addS acc i).1 r else (0, (addS acc i).2)
theorem addS_lt {acc : Nat} {i : Int} {m : Nat} (hm : 12 ≤ m) (h : acc < 2 ^ m) : (addS acc i).1 < 2 ^ m := by
  unfold addS
  split
  · exact h
  · split
    · exact h
    · exact Nat.or_lt_two_pow h (Nat.pow_lt_pow_right (by omega) (by omega))
theorem is_at {l : List Int} {k : Nat} (h : k < l.length) : (is l)[k]? = some (.int .i64 (l[k]'h)) := by simp [is, h]
theorem drop_at {α : Type} (l : List α) (k : Nat) (h : k < l.length) : l.drop k = l[k]'h :: l.drop (k + 1) := List.drop_eq_getElem_cons h
/-- What returns a set and an error. -/
def RetE (w : World) (p : Nat × Int) (e : Ending) (w' : World) : Prop := e = .returned (.tuple #[.int .u16 (p.1 : Int), .int .i64 p.2]) ∧ Up w w'
theorem shr_bit {s k : Nat} (hs : s < 65536) : (bits .and .u16 ((s : Int) / (2 : Int) ^ k) 1 == 1) = s.testBit k := by
  have e : (s : Int) / (2 : Int) ^ k = ((s / 2 ^ k : Nat) : Int) := by rw [Int.natCast_ediv, Int.natCast_pow]; rfl
  have hlt : s / 2 ^ k < 65536 := Nat.lt_of_le_of_lt (Nat.div_le_self _ _) hs
  have := and16 (b := 1) hlt
  rw [show ((1 : Nat) : Int) = 1 from rfl] at this
  rw [e, this, Nat.and_one_is_mod, Nat.testBit_eq_decide_div_mod_eq]
  by_cases h : s / 2 ^ k % 2 = 1
  · simp [h]
  · simp [h]
    omega
end Go.Proofs.YtfdlmgjjpcdkpaaDoor
