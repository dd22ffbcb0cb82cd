/- Plain numbers: rounds that write a limb at its place. No program is imported. -/
import Derived.Test.YtijcijdgpeolhaaDoorMath4
namespace Go.Proofs.YtijcijdgpeolhaaDoor

theorem take_set_succ (L : List Nat) {k d : Nat} (h : k < L.length) : (L.set k d).take (k + 1) = L.take k ++ [d] := by
  rw [take_snoc_getD _ (by simpa using h), List.take_set_of_le (by omega)]
  simp [List.getD, h]
theorem val_take_set (L : List Nat) {k d : Nat} (h : k < L.length) : val ((L.set k d).take (k + 1)) = val (L.take k) + bas k * d := by
  rw [take_set_succ L h, val_snoc, List.length_take, Nat.min_eq_left (by omega)]
/-- One round of a sum with carry. -/
theorem plus_step {a b L : List Nat} {k c s : Nat} (hk : k < L.length) (hv : val (L.take k) + bas k * c = val (a.take k) + val (b.take k)) (hs : s = a.getD k 0 + b.getD k 0 + c) :
    val ((L.set k (s % 1000000000)).take (k + 1)) + bas (k + 1) * (s / 1000000000) = val (a.take (k + 1)) + val (b.take (k + 1)) := by
  rw [val_take_set L hk, val_take_step, val_take_step]
  have e := split_bas k s
  have e3 : bas k * s = bas k * a.getD k 0 + bas k * b.getD k 0 + bas k * c := by rw [hs, Nat.mul_add, Nat.mul_add]
  omega
/-- One round of a difference with borrow, in place: L still holds a's limbs from k on. -/
theorem minus_step {a b L : List Nat} {k c d c' : Nat} (hk : k < L.length) (hv : val (L.take k) + val (b.take k) = val (a.take k) + bas k * c) (hd : d + b.getD k 0 + c = a.getD k 0 + 1000000000 * c') :
    val ((L.set k d).take (k + 1)) + val (b.take (k + 1)) = val (a.take (k + 1)) + bas (k + 1) * c' := by
  rw [val_take_set L hk, val_take_step, val_take_step, bas_succ]
  have e2 : bas k * d + bas k * b.getD k 0 + bas k * c = bas k * a.getD k 0 + 1000000000 * bas k * c' := by
    rw [← Nat.mul_add, ← Nat.mul_add, hd, Nat.mul_add, ← Nat.mul_assoc, Nat.mul_comm (bas k) 1000000000]
  omega
theorem getD_set_ne {L : List Nat} {k j d : Nat} (h : k ≠ j) : (L.set k d).getD j 0 = L.getD j 0 := by simp [List.getD, h]
theorem getD_set_eq {L : List Nat} {k d : Nat} (h : k < L.length) : (L.set k d).getD k 0 = d := by simp [List.getD, h]
end Go.Proofs.YtijcijdgpeolhaaDoor
