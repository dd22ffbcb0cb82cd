/- Walks that append: the reference's add. -/
import Derived.Test.YtijcijdgpeolhaaDoorA2
import Derived.Test.YtijcijdgpeolhaaDoorBase2
import Derived.Maps.AppendAt
namespace Go.Proofs.YtijcijdgpeolhaaDoor
open Go.RowKit

theorem add_step {a b o : List Nat} {k c s : Nat} (ha : Dig a) (hb : Dig b) (hlen : o.length = k) (hc : c ≤ 1) (hv : val o + bas k * c = val (a.take k) + val (b.take k)) (hs : s = a.getD k 0 + b.getD k 0 + c) (ho : Dig o) :
    (o ++ [s % 1000000000]).length = k + 1 ∧ s / 1000000000 ≤ 1 ∧ Dig (o ++ [s % 1000000000]) ∧ val (o ++ [s % 1000000000]) + bas (k + 1) * (s / 1000000000) = val (a.take (k + 1)) + val (b.take (k + 1)) := by
  have h1 := dig_getD ha k
  have h2 := dig_getD hb k
  refine ⟨by simp [hlen], by omega, ?_, ?_⟩
  · intro x hx
    rcases List.mem_append.1 hx with h | h
    · exact ho x h
    · simp at h; omega
  · have key : ∀ (l : List Nat), val (l.take (k + 1)) = val (l.take k) + bas k * l.getD k 0 := fun l => by
      by_cases h : k < l.length
      · exact val_take_succ l h
      · rw [List.take_of_length_le (by omega), List.take_of_length_le (by omega)]
        simp [List.getD, List.getElem?_eq_none (Nat.le_of_not_lt h)]
    rw [key, key, val_snoc, hlen, bas]
    have e : s = s % 1000000000 + 1000000000 * (s / 1000000000) := by omega
    have e2 : bas k * s = bas k * (s % 1000000000) + 1000000000 * bas k * (s / 1000000000) := by
      conv => lhs; rw [e]
      rw [Nat.mul_add, ← Nat.mul_assoc, Nat.mul_comm (bas k) 1000000000]
    have e3 : bas k * s = bas k * a.getD k 0 + bas k * b.getD k 0 + bas k * c := by rw [hs, Nat.mul_add, Nat.mul_add]
    omega

end Go.Proofs.YtijcijdgpeolhaaDoor
