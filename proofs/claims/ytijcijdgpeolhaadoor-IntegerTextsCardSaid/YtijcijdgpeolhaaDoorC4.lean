/- The reference's Sub, Mul, Abs. -/
import Derived.Test.YtijcijdgpeolhaaDoorC3
namespace Go.Proofs.YtijcijdgpeolhaaDoor
open Go.RowKit
theorem sgn_mul {s t : Bool} {x y : Int} (Hs : Hid (s = decide (x < 0))) (Ht : Hid (t = decide (y < 0))) : sgn (s != t) (x.natAbs * y.natAbs) = x * y := by
  have h1 := Hs.out
  have h2 := Ht.out
  have e : ∀ z : Int, z = if decide (z < 0) then -(z.natAbs : Int) else z.natAbs := fun z => by by_cases h : z < 0 <;> simp [h] <;> omega
  have ex := e x
  have ey := e y
  rw [← h1] at ex
  rw [← h2] at ey
  unfold sgn
  obtain ⟨p, hp⟩ : ∃ p, p = x.natAbs := ⟨_, rfl⟩
  obtain ⟨q, hq⟩ : ∃ q, q = y.natAbs := ⟨_, rfl⟩
  rw [← hp] at ex ⊢
  rw [← hq] at ey ⊢
  rw [ex, ey]
  cases s <;> cases t <;> simp [Int.neg_mul, Int.mul_neg]
theorem mul_small {x y : Nat} (hx : x < top300) (hy : y < top300) : (lim (x * y)).length ≤ 100 := by
  rw [lim_len_le]
  have h1 : top300 ≤ bas 34 := by have : bas 34 = 1000000000 * bas 33 := rfl; unfold top300; omega
  have h2 : x * y ≤ bas 34 * bas 34 := Nat.mul_le_mul (by omega) (by omega)
  rw [← bas_add] at h2
  have h3 : bas 69 ≤ bas 100 := bas_mono (by omega)
  have h4 : bas 69 = 1000000000 * bas 68 := rfl
  have h5 := bas_pos 68
  have h6 : bas (34 + 34) = bas 68 := rfl
  omega

end Go.Proofs.YtijcijdgpeolhaaDoor
