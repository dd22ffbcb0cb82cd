/- Plain numbers: long division with a guess from three limbs over two. No program is imported. -/
import Derived.Test.YtnelnobcecnhlaaMath6
namespace Go.Proofs.Ytnelnobcecnhlaa

theorem guess_math {W T D P b wl bl : Nat} (hW : W = T * P + wl) (hwl : wl < P) (hb : b = D * P + bl) (hbl : bl < P) (hD : 1000000000 ≤ D) (hlt : W < 1000000000 * b) :
    W / b ≤ T / D ∧ T / D ≤ W / b + 1 ∧ T / D ≤ 1000000000 := by
  have hD0 : 0 < D := by omega
  have hP : 0 < P := by omega
  have hb0 : 0 < b := by rw [hb]; exact Nat.lt_of_lt_of_le (Nat.mul_pos hD0 hP) (Nat.le_add_right _ _)
  obtain ⟨q, hq⟩ : ∃ q, q = W / b := ⟨_, rfl⟩
  obtain ⟨t, ht⟩ : ∃ t, t = T / D := ⟨_, rfl⟩
  rw [← hq, ← ht]
  have h1 : q * b ≤ W := by rw [hq]; exact Nat.div_mul_le_self W b
  have h2 : t * D ≤ T := by rw [ht]; exact Nat.div_mul_le_self T D
  have hWT : W < (T + 1) * P := by rw [hW, Nat.add_mul]; omega
  have h3 : q * D * P ≤ q * b := by rw [hb, Nat.mul_add, Nat.mul_assoc]; exact Nat.le_add_right _ _
  have h4 : q * D < T + 1 := Nat.lt_of_mul_lt_mul_right (a := P) (by omega)
  have hqt : q ≤ t := by rw [ht]; exact (Nat.le_div_iff_mul_le hD0).2 (by omega)
  have h5 : b < (D + 1) * P := by rw [hb, Nat.add_mul]; omega
  have h6 : T * P ≤ W := by rw [hW]; exact Nat.le_add_right _ _
  have h7 : 1000000000 * b ≤ 1000000000 * (D + 1) * P := by rw [Nat.mul_assoc]; exact Nat.mul_le_mul_left _ (Nat.le_of_lt h5)
  have h8 : T < 1000000000 * (D + 1) := Nat.lt_of_mul_lt_mul_right (a := P) (by omega)
  have h9 : t ≤ 1000000000 := by
    have : t < 1000000001 := by rw [ht]; exact (Nat.div_lt_iff_lt_mul hD0).2 (by omega)
    omega
  refine ⟨hqt, ?_, h9⟩
  rcases Nat.eq_zero_or_pos t with h | h
  · omega
  · obtain ⟨r, rfl⟩ : ∃ r, t = r + 1 := ⟨t - 1, by omega⟩
    have h10 : r * b ≤ W := by
      have e1 : r * b ≤ r * ((D + 1) * P) := Nat.mul_le_mul_left _ (Nat.le_of_lt h5)
      have e2 : r * ((D + 1) * P) = (r * D + r) * P := by rw [← Nat.mul_assoc, Nat.mul_add, Nat.mul_one]
      have e3 : r * D + r ≤ T := by rw [Nat.add_mul] at h2; omega
      have e4 := Nat.mul_le_mul_right P e3
      omega
    have : r ≤ q := by rw [hq]; exact (Nat.le_div_iff_mul_le hb0).2 h10
    omega
/-- The last two limbs, the last three limbs. -/
theorem val_top2 {l : List Nat} {k : Nat} (h : l.length = k + 2) : val l = (l.getD (k + 1) 0 * 1000000000 + l.getD k 0) * bas k + val (l.take k) := by
  have h1 := val_take_succ l (k := k + 1) (by omega)
  have h2 := val_take_succ l (k := k) (by omega)
  rw [List.take_of_length_le (by omega)] at h1
  have b1 : bas (k + 1) = 1000000000 * bas k := rfl
  rw [h1, h2, b1]
  generalize l.getD (k + 1) 0 = y
  generalize l.getD k 0 = z
  generalize bas k = p
  have e2 : 1000000000 * p * y = 1000000000 * (p * y) := Nat.mul_assoc _ _ _
  have e3 : (y * 1000000000 + z) * p = 1000000000 * (p * y) + p * z := by
    rw [Nat.add_mul, Nat.mul_comm z p, Nat.mul_comm p y]
    have f2 : y * 1000000000 * p = 1000000000 * (y * p) := by rw [Nat.mul_comm y, Nat.mul_assoc]
    omega
  rw [e2, e3]
  omega
theorem val_top3 {l : List Nat} {k : Nat} (h : l.length = k + 3) : val l = ((l.getD (k + 2) 0 * 1000000000 + l.getD (k + 1) 0) * 1000000000 + l.getD k 0) * bas k + val (l.take k) := by
  have h1 := val_take_succ l (k := k + 2) (by omega)
  have h2 := val_take_succ l (k := k + 1) (by omega)
  have h3 := val_take_succ l (k := k) (by omega)
  rw [List.take_of_length_le (by omega)] at h1
  have b1 : bas (k + 1) = 1000000000 * bas k := rfl
  have b2 : bas (k + 2) = 1000000000 * (1000000000 * bas k) := rfl
  rw [h1, h2, h3, b2, b1]
  generalize l.getD (k + 2) 0 = x
  generalize l.getD (k + 1) 0 = y
  generalize l.getD k 0 = z
  generalize bas k = p
  have e1 : 1000000000 * (1000000000 * p) * x = 1000000000000000000 * (p * x) := by rw [← Nat.mul_assoc, Nat.mul_assoc]
  have e2 : 1000000000 * p * y = 1000000000 * (p * y) := Nat.mul_assoc _ _ _
  have e3 : ((x * 1000000000 + y) * 1000000000 + z) * p = 1000000000000000000 * (p * x) + 1000000000 * (p * y) + p * z := by
    rw [Nat.add_mul, Nat.add_mul, Nat.add_mul, Nat.mul_comm z p, Nat.mul_comm p x, Nat.mul_comm p y]
    have f1 : x * 1000000000 * 1000000000 * p = 1000000000000000000 * (x * p) := by rw [Nat.mul_assoc x, Nat.mul_comm x, Nat.mul_assoc]
    have f2 : y * 1000000000 * p = 1000000000 * (y * p) := by rw [Nat.mul_comm y, Nat.mul_assoc]
    omega
  rw [e1, e2, e3]
  omega
/-- One round of a subtraction of q times b, in place. -/
theorem take_step {L W0 b : List Nat} {k c d c' q : Nat} (hk : k < L.length) (hv : val (L.take k) + q * val (b.take k) = val (W0.take k) + bas k * c) (hd : d + q * b.getD k 0 + c = W0.getD k 0 + 1000000000 * c') :
    val ((L.set k d).take (k + 1)) + q * val (b.take (k + 1)) = val (W0.take (k + 1)) + bas (k + 1) * c' := by
  rw [val_take_set L hk, val_take_step b, val_take_step W0, bas_succ, Nat.mul_add q]
  have e1 : bas k * d + bas k * (q * b.getD k 0) + bas k * c = bas k * W0.getD k 0 + 1000000000 * bas k * c' := by
    rw [← Nat.mul_add, ← Nat.mul_add, hd, Nat.mul_add, ← Nat.mul_assoc, Nat.mul_comm (bas k) 1000000000]
  have e2 : q * (bas k * b.getD k 0) = bas k * (q * b.getD k 0) := by rw [← Nat.mul_assoc, Nat.mul_comm q, Nat.mul_assoc]
  omega
/-- The guess, the subtraction and what is put back lead to the quotient's limb and the remainder. -/
theorem guess_end {W b g B L1 L2 c : Nat} {neg : Bool} (hb : b < B) (hb0 : 0 < b) (hg1 : W / b ≤ g) (hg2 : g ≤ W / b + 1) (h1 : L1 + g * b = W + B * (if neg then 1 else 0)) (hL1 : L1 < B)
    (h2 : neg = true → L2 + B * c = L1 + b) (hL2 : L2 < B) (h3 : neg = false → L2 = L1) : (if neg then g - 1 else g) = W / b ∧ L2 = W % b := by
  obtain ⟨q, hq⟩ : ∃ q, q = W / b := ⟨_, rfl⟩
  have hW : W = q * b + W % b := by rw [hq, Nat.mul_comm]; exact (Nat.div_add_mod W b).symm
  have hr := Nat.mod_lt W hb0
  rw [← hq] at hg1 hg2 ⊢
  cases neg with
  | false =>
    simp at h1 h3 ⊢
    have hgq : g = q := by
      rcases Nat.lt_or_ge q g with h | h
      · obtain rfl : g = q + 1 := by omega
        rw [Nat.add_mul, Nat.one_mul] at h1
        omega
      · omega
    subst hgq
    exact ⟨rfl, by omega⟩
  | true =>
    simp at h1 h2 ⊢
    have hgq : g = q + 1 := by
      rcases Nat.lt_or_ge q g with h | h
      · omega
      · obtain rfl : g = q := by omega
        omega
    subst hgq
    rw [Nat.add_mul, Nat.one_mul] at h1
    refine ⟨rfl, ?_⟩
    have hc : c = 1 := by
      rcases Nat.lt_trichotomy c 1 with h | h | h
      · obtain rfl : c = 0 := by omega
        omega
      · exact h
      · have : B * 2 ≤ B * c := Nat.mul_le_mul_left _ h
        omega
    subst hc
    omega
theorem drop_set_add (L : List Nat) (i k d : Nat) : (L.set (i + k) d).drop i = (L.drop i).set k d := by
  rw [List.drop_set]
  rw [if_neg (by omega)]
  congr 1
  omega
theorem getD_drop (L : List Nat) (i k : Nat) : (L.drop i).getD k 0 = L.getD (i + k) 0 := by simp [List.getD]
theorem dig_drop {l : List Nat} (h : Dig l) (k : Nat) : Dig (l.drop k) := fun x hx => h x (List.mem_of_mem_drop hx)
theorem val_drop_add (l : List Nat) (i k : Nat) : val (l.drop i) = val ((l.drop i).take k) + bas (min k (l.length - i)) * val (l.drop (i + k)) := by
  have h := val_append ((l.drop i).take k) ((l.drop i).drop k)
  rw [List.take_append_drop, List.drop_drop] at h
  rw [h, List.length_take, List.length_drop]
end Go.Proofs.Ytnelnobcecnhlaa
