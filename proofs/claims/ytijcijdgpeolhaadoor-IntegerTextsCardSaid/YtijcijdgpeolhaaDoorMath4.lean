/- Plain numbers: one round of a long division, limb by limb. No program is imported. -/
import Derived.Test.YtijcijdgpeolhaaDoorMath3
namespace Go.Proofs.YtijcijdgpeolhaaDoor

theorem val_drop_step (l : List Nat) {k : Nat} (h : k < l.length) : val (l.drop k) = l.getD k 0 + 1000000000 * val (l.drop (k + 1)) := by
  rw [List.drop_eq_getElem_cons h, val]; simp [List.getD, h]
theorem val_drop_set (l : List Nat) {k x : Nat} (h : k < l.length) : val ((l.set k x).drop k) = x + 1000000000 * val (l.drop (k + 1)) := by
  rw [val_drop_step _ (by simpa using h)]
  have h1 : (l.set k x).getD k 0 = x := by simp [List.getD, h]
  have h2 : (l.set k x).drop (k + 1) = l.drop (k + 1) := by rw [List.drop_set_of_lt (by omega)]
  rw [h1, h2]
theorem dig_set {l : List Nat} (h : Dig l) {k x : Nat} (hx : x < 1000000000) : Dig (l.set k x) := fun y hy => by
  rcases List.mem_or_eq_of_mem_set hy with h1 | rfl
  · exact h y h1
  · exact hx
/-- The quotient's next limb and the next remainder. -/
theorem div_step {x r b q : Nat} (hx : x < 1000000000) (hr : r < b) (h1 : q * b ≤ x + 1000000000 * r) (h2 : x + 1000000000 * r < (q + 1) * b) : q < 1000000000 ∧ x + 1000000000 * r - q * b < b := by
  constructor
  · have h3 : x + 1000000000 * r < 1000000000 * b := by omega
    rcases Nat.lt_or_ge q 1000000000 with h | h
    · exact h
    · have := Nat.mul_le_mul_right b h; omega
  · rw [Nat.add_mul] at h2; omega
theorem div_keep {av x r b q vq r' : Nat} (hr' : r' = x + 1000000000 * r - q * b) (hle : q * b ≤ x + 1000000000 * r) (hv : av = vq * b + r) : x + 1000000000 * av = (q + 1000000000 * vq) * b + r' := by
  rw [hv, hr', Nat.add_mul, Nat.mul_add, Nat.mul_assoc]; omega
theorem div_end {a b q r : Nat} (h : a = q * b + r) (hr : r < b) : q = a / b ∧ r = a % b := by
  have h0 : 0 < b := by omega
  constructor
  · rw [h, Nat.mul_comm, Nat.mul_add_div h0, Nat.div_eq_of_lt hr]; rfl
  · rw [h, Nat.mul_comm, Nat.mul_add_mod, Nat.mod_eq_of_lt hr]
end Go.Proofs.YtijcijdgpeolhaaDoor
