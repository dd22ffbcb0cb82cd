/- Walks that append: the reference's sub, times, mul. -/
import Derived.Test.YtijcijdgpeolhaaDoorB1
import Derived.Test.YtijcijdgpeolhaaDoorMath3
namespace Go.Proofs.YtijcijdgpeolhaaDoor
open Go.RowKit
theorem u32s_replicate (n : Nat) : List.replicate n (Value.int .u32 0) = u32s (List.replicate n 0) := by simp [u32s]
theorem dig_replicate (n : Nat) : Dig (List.replicate n 0) := fun x hx => by
  have := (List.mem_replicate.1 hx).2
  omega

theorem mul_len {a b n m k : Nat} (hn : n = (lim a).length) (hm : m = (lim b).length) : (lim (a * val ((lim b).take k))).length ≤ n + m := by
  rw [lim_len_le, bas_add]
  have h1 : a < bas n := by rw [hn]; exact lim_lt_bas a
  have h2 : val ((lim b).take k) < bas m := by
    have := val_lt (dig_take (dig_lim b) k)
    have h3 : bas ((lim b).take k).length ≤ bas m := bas_mono (by rw [List.length_take, hm]; omega)
    omega
  rcases Nat.eq_zero_or_pos (val ((lim b).take k)) with h0 | h0
  · rw [h0, Nat.mul_zero]; exact Nat.mul_pos (bas_pos _) (bas_pos _)
  · exact Nat.lt_of_lt_of_le (Nat.mul_lt_mul_of_pos_right h1 h0) (Nat.mul_le_mul_left _ (by omega))

end Go.Proofs.YtijcijdgpeolhaaDoor
