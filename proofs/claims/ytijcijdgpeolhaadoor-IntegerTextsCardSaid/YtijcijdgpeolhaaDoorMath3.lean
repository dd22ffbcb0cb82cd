/- Plain numbers: one round of a subtraction, of a product with a single limb. No program is imported. -/
import Derived.Test.YtijcijdgpeolhaaDoorMath2
namespace Go.Proofs.YtijcijdgpeolhaaDoor

theorem val_take_step (l : List Nat) (k : Nat) : val (l.take (k + 1)) = val (l.take k) + bas k * l.getD k 0 := by
  by_cases h : k < l.length
  · exact val_take_succ l h
  · rw [List.take_of_length_le (by omega), List.take_of_length_le (by omega)]
    simp [List.getD, List.getElem?_eq_none (Nat.le_of_not_lt h)]
theorem dig_snoc {o : List Nat} (h : Dig o) {x : Nat} (hx : x < 1000000000) : Dig (o ++ [x]) := by
  intro y hy
  rcases List.mem_append.1 hy with h1 | h1
  · exact h y h1
  · simp at h1; omega
theorem split_bas (k s : Nat) : bas k * s = bas k * (s % 1000000000) + bas (k + 1) * (s / 1000000000) := by
  have e : s = s % 1000000000 + 1000000000 * (s / 1000000000) := by omega
  conv => lhs; rw [e]
  rw [Nat.mul_add, ← Nat.mul_assoc, Nat.mul_comm (bas k) 1000000000, bas_succ]

/-- One round of a subtraction with borrow. -/
theorem sub_step {a b o : List Nat} {k c s : Nat} (ha : Dig a) (hb : Dig b) (hlen : o.length = k) (hc : c ≤ 1) (hv : val o + val (b.take k) = val (a.take k) + bas k * c) (hs : s + b.getD k 0 + c = a.getD k 0 + 1000000000) (ho : Dig o) :
    (o ++ [s % 1000000000]).length = k + 1 ∧ s / 1000000000 ≤ 1 ∧ Dig (o ++ [s % 1000000000]) ∧ val (o ++ [s % 1000000000]) + val (b.take (k + 1)) = val (a.take (k + 1)) + bas (k + 1) * (1 - s / 1000000000) := by
  have h1 := dig_getD ha k
  have h2 := dig_getD hb k
  refine ⟨by simp [hlen], by omega, dig_snoc ho (by omega), ?_⟩
  rw [val_take_step, val_take_step, val_snoc, hlen, bas]
  have e : s % 1000000000 + b.getD k 0 + c = a.getD k 0 + 1000000000 * (1 - s / 1000000000) := by omega
  have e2 : bas k * (s % 1000000000) + bas k * b.getD k 0 + bas k * c = bas k * a.getD k 0 + 1000000000 * bas k * (1 - s / 1000000000) := by
    rw [← Nat.mul_add, ← Nat.mul_add, e, Nat.mul_add, ← Nat.mul_assoc, Nat.mul_comm (bas k) 1000000000]
  omega
/-- The end of a subtraction: nothing is borrowed. -/
theorem sub_end {a b : Nat} {o : List Nat} {c : Nat} (hle : b ≤ a) (hlen : o.length = (lim a).length) (hc : c ≤ 1) (ho : Dig o) (hv : val o + val ((lim b).take (lim a).length) = val ((lim a).take (lim a).length) + bas (lim a).length * c) : val o = a - b := by
  rw [List.take_of_length_le (lim_len_mono hle), List.take_of_length_le (Nat.le_refl _), val_lim, val_lim] at hv
  have h1 := val_lt ho
  rw [hlen] at h1
  rcases Nat.lt_or_ge c 1 with h | h
  · obtain rfl : c = 0 := by omega
    omega
  · obtain rfl : c = 1 := by omega
    omega

/-- One round of a product with a single limb, moved up by u limbs. -/
theorem times_step {a o : List Nat} {k c q u s : Nat} (ha : Dig a) (hq : q < 1000000000) (hlen : o.length = u + k) (hc : c < 1000000000) (hv : val o + bas (u + k) * c = bas u * (val (a.take k) * q)) (hs : s = a.getD k 0 * q + c) (ho : Dig o) :
    (o ++ [s % 1000000000]).length = u + (k + 1) ∧ s / 1000000000 < 1000000000 ∧ Dig (o ++ [s % 1000000000]) ∧ val (o ++ [s % 1000000000]) + bas (u + (k + 1)) * (s / 1000000000) = bas u * (val (a.take (k + 1)) * q) := by
  have h1 := dig_getD ha k
  have h2 : a.getD k 0 * q ≤ 999999999 * 999999999 := Nat.mul_le_mul (by omega) (by omega)
  refine ⟨by simp [hlen]; omega, by omega, dig_snoc ho (by omega), ?_⟩
  have e := split_bas (u + k) s
  rw [val_snoc, hlen, val_take_step, show u + (k + 1) = u + k + 1 from by omega]
  have e3 : bas (u + k) * s = bas u * (bas k * a.getD k 0 * q) + bas (u + k) * c := by
    rw [hs, Nat.mul_add, bas_add, Nat.mul_assoc, Nat.mul_assoc (bas k)]
  rw [Nat.add_mul, Nat.mul_add]
  omega
end Go.Proofs.YtijcijdgpeolhaaDoor
