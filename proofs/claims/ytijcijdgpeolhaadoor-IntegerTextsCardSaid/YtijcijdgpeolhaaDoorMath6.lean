/- Plain numbers: one round of the schoolbook product. No program is imported. -/
import Derived.Test.YtijcijdgpeolhaaDoorMath5
namespace Go.Proofs.YtijcijdgpeolhaaDoor

theorem val_set (L : List Nat) {p d : Nat} (h : p < L.length) : val (L.set p d) + bas p * L.getD p 0 = val L + bas p * d := by
  have h1 := val_split (L.set p d) (k := p) (by simpa using h)
  have h2 := val_split L (k := p) h
  rw [List.take_set_of_le (by omega), getD_set_eq h, List.drop_set_of_lt (by omega)] at h1
  rw [h1, h2, Nat.mul_add, Nat.mul_add]
  omega
theorem mul_step {L : List Nat} {p c t xy V : Nat} (hp : p < L.length) (ht : t = L.getD p 0 + xy + c) (hv : val L + bas p * c = V) :
    val (L.set p (t % 1000000000)) + bas (p + 1) * (t / 1000000000) = V + bas p * xy := by
  have h1 := val_set L (p := p) (d := t % 1000000000) hp
  have h2 := split_bas p t
  have h3 : bas p * t = bas p * L.getD p 0 + bas p * xy + bas p * c := by rw [ht, Nat.mul_add, Nat.mul_add]
  omega
theorem mul_carry {q x y c t : Nat} (hq : q < 1000000000) (hx : x < 1000000000) (hy : y < 1000000000) (hc : c < 1000000000) (ht : t = q + x * y + c) : t / 1000000000 < 1000000000 ∧ x * y ≤ 999999998000000001 := by
  have h : x * y ≤ 999999999 * 999999999 := Nat.mul_le_mul (by omega) (by omega)
  constructor <;> omega
end Go.Proofs.YtijcijdgpeolhaaDoor
