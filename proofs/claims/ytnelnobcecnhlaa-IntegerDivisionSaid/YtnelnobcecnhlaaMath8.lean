/- Plain numbers: one round of the long division, on the whole row. No program is imported. -/
import Derived.Test.YtnelnobcecnhlaaMath7
namespace Go.Proofs.Ytnelnobcecnhlaa

theorem drop_same {L L' : List Nat} {p : Nat} (hl : L'.length = L.length) (h : ∀ j, p ≤ j → L'.getD j 0 = L.getD j 0) : L'.drop p = L.drop p := by
  apply List.ext_getElem?
  intro j
  rw [List.getElem?_drop, List.getElem?_drop]
  have h1 := h (p + j) (by omega)
  by_cases hj : p + j < L.length
  · rw [List.getElem?_eq_getElem hj, List.getElem?_eq_getElem (by omega)]
    simp only [List.getD, List.getElem?_eq_getElem hj, List.getElem?_eq_getElem (show p + j < L'.length by omega), Option.getD_some] at h1
    rw [h1]
  · rw [List.getElem?_eq_none (by omega), List.getElem?_eq_none (by omega)]
theorem long_round {R R0 : List Nat} {i k n b : Nat} (hR : R.length = n + 1) (hi : i + (k + 2) + 1 ≤ n + 1) (dR : Dig R) (hsame : R.getD i 0 = R0.getD i 0) (hr : val (R.drop (i + 1)) < b) (hb : b < bas (k + 2)) :
    val ((R.drop i).take (k + 3)) = R0.getD i 0 + 1000000000 * val (R.drop (i + 1)) ∧ val (R.drop (i + (k + 3))) = 0 ∧ val ((R.drop i).take (k + 3)) < 1000000000 * b := by
  have h1 := val_drop_add R (i + 1) (k + 2)
  rw [Nat.min_eq_left (by omega), show i + 1 + (k + 2) = i + (k + 3) by omega] at h1
  have h0 : val (R.drop (i + (k + 3))) = 0 := by
    rcases Nat.eq_zero_or_pos (val (R.drop (i + (k + 3)))) with h | h
    · exact h
    · have : bas (k + 2) * 1 ≤ bas (k + 2) * val (R.drop (i + (k + 3))) := Nat.mul_le_mul_left _ h
      omega
  have h2 := val_drop_add R i (k + 3)
  rw [h0, Nat.mul_zero, Nat.add_zero] at h2
  have h3 := val_drop_step R (k := i) (by omega)
  rw [hsame] at h3
  have hx := dig_getD dR i
  rw [hsame] at hx
  refine ⟨by omega, h0, ?_⟩
  rw [← h2, h3]
  omega
theorem long_next {R R' : List Nat} {i k n x : Nat} (hR : R.length = n + 1) (hR' : R'.length = n + 1) (h0 : val (R.drop (i + (k + 3))) = 0) (hsame : ∀ j, (j < i ∨ i + (k + 2) < j) → R'.getD j 0 = R.getD j 0) (hv : val ((R'.drop i).take (k + 3)) = x) : val (R'.drop i) = x := by
  have h1 := val_drop_add R' i (k + 3)
  rw [drop_same (L := R) (L' := R') (p := i + (k + 3)) (by omega) (fun j hj => hsame j (.inr (by omega))), h0, Nat.mul_zero, Nat.add_zero] at h1
  rw [h1, hv]
/-- The factor is small enough. -/
theorem factor_math {tp f : Nat} (htp : tp < 1000000000) (hf : f = 1000000000 / (tp + 1)) : 1 ≤ f ∧ f ≤ 1000000000 ∧ (tp + 1) * f ≤ 1000000000 := by
  have h1 : f * (tp + 1) ≤ 1000000000 := by rw [hf]; exact Nat.div_mul_le_self _ _
  refine ⟨?_, ?_, by rw [Nat.mul_comm]; exact h1⟩
  · rw [hf]; exact (Nat.le_div_iff_mul_le (by omega)).2 (by omega)
  · rw [hf]; exact Nat.div_le_self _ _
theorem factor_fits {b k tp lo f : Nat} (hb : b = lo + bas (k + 1) * tp) (hlo : lo < bas (k + 1)) (hf : (tp + 1) * f ≤ 1000000000) (hf1 : 1 ≤ f) : b * f < bas (k + 2) := by
  have h1 : b < bas (k + 1) * (tp + 1) := by rw [hb, Nat.mul_add]; omega
  have h2 : b * f < bas (k + 1) * (tp + 1) * f := Nat.mul_lt_mul_of_pos_right h1 hf1
  have h3 : bas (k + 1) * ((tp + 1) * f) ≤ bas (k + 1) * 1000000000 := Nat.mul_le_mul_left _ hf
  have h4 : bas (k + 2) = bas (k + 1) * 1000000000 := Nat.mul_comm _ _
  rw [Nat.mul_assoc] at h2
  omega
theorem long_end {a b f Q R : Nat} (hf : 0 < f) (hb : 0 < b) (h : a * f = Q * (b * f) + R) (hR : R < b * f) : Q = a / b ∧ R / f = a % b := by
  have hbf : 0 < b * f := Nat.mul_pos hb hf
  have h1 : a * f / (b * f) = Q := by
    rw [h, Nat.mul_comm Q, Nat.mul_add_div hbf, Nat.div_eq_of_lt hR]; rfl
  have h2 : a * f % (b * f) = R := by
    rw [h, Nat.mul_comm Q, Nat.mul_add_mod, Nat.mod_eq_of_lt hR]
  rw [Nat.mul_div_mul_right _ _ hf] at h1
  rw [Nat.mul_mod_mul_right] at h2
  exact ⟨h1.symm, by rw [← h2, Nat.mul_div_cancel _ hf]⟩
theorem long_start {a f b n k : Nat} {R0 : List Nat} (hv : val R0 = a * f) (hl : R0.length = n + 1) (ha : a < bas n) (hb : bas (k + 1) ≤ b) (hk : k + 2 ≤ n) (hf : 0 < f) : val (R0.drop (n - (k + 2) + 1)) < b * f := by
  have h1 := val_append (R0.take (n - (k + 2) + 1)) (R0.drop (n - (k + 2) + 1))
  rw [List.take_append_drop, List.length_take, Nat.min_eq_left (by omega), hv] at h1
  have h2 : bas n = bas (k + 1) * bas (n - (k + 2) + 1) := by rw [← bas_add]; congr 1; omega
  have h3 : bas (n - (k + 2) + 1) * val (R0.drop (n - (k + 2) + 1)) < bas (n - (k + 2) + 1) * (bas (k + 1) * f) := by
    have h4 : a * f < bas n * f := Nat.mul_lt_mul_of_pos_right ha hf
    rw [h2, Nat.mul_comm (bas (k + 1)), Nat.mul_assoc] at h4
    omega
  have h5 := Nat.lt_of_mul_lt_mul_left h3
  exact Nat.lt_of_lt_of_le h5 (Nat.mul_le_mul_right _ hb)
theorem top_le {W b k w2 fb lo lo' : Nat} (hW : W = lo + bas (k + 2) * w2) (hb : b = lo' + bas (k + 1) * fb) (hlo' : lo' < bas (k + 1)) (h : W < 1000000000 * b) : w2 ≤ fb := by
  have h1 : 1000000000 * b < bas (k + 2) * (fb + 1) := by
    have e : bas (k + 2) = 1000000000 * bas (k + 1) := rfl
    rw [hb, e, Nat.mul_add, Nat.mul_add, Nat.mul_assoc, Nat.mul_one]; omega
  have h2 : bas (k + 2) * w2 < bas (k + 2) * (fb + 1) := by omega
  have := Nat.lt_of_mul_lt_mul_left h2
  omega
theorem long_keep {R0 Q R R1 : List Nat} {i b W g : Nat} (hW : W = R0.getD i 0 + 1000000000 * val (R.drop (i + 1))) (hv : val (R0.drop (i + 1)) = val (Q.drop (i + 1)) * b + val (R.drop (i + 1))) (hg : g = W / b) (hr : val (R1.drop i) = W % b) (hi : i < R0.length) (hq : i < Q.length) :
    val (R0.drop i) = val ((Q.set i g).drop i) * b + val (R1.drop i) := by
  rw [val_drop_step R0 hi, val_drop_set Q hq, hr]
  have h1 := Nat.div_add_mod W b
  rw [← hg, Nat.mul_comm] at h1
  exact div_keep (r' := W % b) (by omega) (by omega) hv
theorem guess_vals {wl bl : List Nat} {k b : Nat} (hw : wl.length = k + 3) (hl : bl.length = k + 2) (dw : Dig wl) (db : Dig bl) (hb : val bl = b) (hlt : val wl < 1000000000 * b) (hbig : bas (k + 1) ≤ b) :
    1 ≤ bl.getD (k + 1) 0 ∧ wl.getD (k + 2) 0 ≤ bl.getD (k + 1) 0 ∧
      val wl / b ≤ ((wl.getD (k + 2) 0 * 1000000000 + wl.getD (k + 1) 0) * 1000000000 + wl.getD k 0) / (bl.getD (k + 1) 0 * 1000000000 + bl.getD k 0) ∧
      ((wl.getD (k + 2) 0 * 1000000000 + wl.getD (k + 1) 0) * 1000000000 + wl.getD k 0) / (bl.getD (k + 1) 0 * 1000000000 + bl.getD k 0) ≤ val wl / b + 1 ∧
      ((wl.getD (k + 2) 0 * 1000000000 + wl.getD (k + 1) 0) * 1000000000 + wl.getD k 0) / (bl.getD (k + 1) 0 * 1000000000 + bl.getD k 0) ≤ 1000000000 := by
  have h1 := val_take_succ bl (k := k + 1) (by omega)
  rw [List.take_of_length_le (by omega), hb] at h1
  have h2 := val_lt (dig_take db (k + 1))
  rw [List.length_take, Nat.min_eq_left (by omega)] at h2
  have h3 := val_take_succ wl (k := k + 2) (by omega)
  rw [List.take_of_length_le (by omega)] at h3
  have hf1 : 1 ≤ bl.getD (k + 1) 0 := by
    rcases Nat.eq_zero_or_pos (bl.getD (k + 1) 0) with h | h
    · rw [h] at h1; omega
    · exact h
  have h4 := top_le h3 h1 h2 hlt
  have h5 := val_lt (dig_take db k)
  rw [List.length_take, Nat.min_eq_left (by omega)] at h5
  have h6 := val_lt (dig_take dw k)
  rw [List.length_take, Nat.min_eq_left (by omega)] at h6
  have h7 := val_top2 hl
  rw [hb] at h7
  have h8 := val_top3 hw
  exact ⟨hf1, h4, guess_math h8 h6 h7 h5 (by omega) hlt⟩
end Go.Proofs.Ytnelnobcecnhlaa
