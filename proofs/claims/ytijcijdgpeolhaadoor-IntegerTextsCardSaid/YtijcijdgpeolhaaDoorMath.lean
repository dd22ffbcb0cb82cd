/- Plain numbers: a natural number's limbs to the base 10^9, least first; what a list of limbs is worth; that a trimmed list of limbs is the limbs of its worth. No program is imported. -/
import Derived.KernelRfl
namespace Go.Proofs.YtijcijdgpeolhaaDoor

/-- The limbs of a number. -/
def lim (n : Nat) : List Nat := if h : n = 0 then [] else n % 1000000000 :: lim (n / 1000000000)
termination_by n
decreasing_by omega

/-- What limbs are worth. -/
def val : List Nat → Nat
  | [] => 0
  | x :: l => x + 1000000000 * val l

/-- The base to a power. -/
def bas : Nat → Nat
  | 0 => 1
  | n + 1 => 1000000000 * bas n

/-- Every limb is one of the base. -/
def Dig (l : List Nat) : Prop := ∀ x ∈ l, x < 1000000000

theorem lim_zero : lim 0 = [] := by rw [lim]; simp
theorem lim_pos {n : Nat} (h : n ≠ 0) : lim n = n % 1000000000 :: lim (n / 1000000000) := by rw [lim]; simp [h]
theorem bas_pos (n : Nat) : 0 < bas n := by
  induction n with
  | zero => simp [bas]
  | succ n ih => simp only [bas]; omega
theorem bas_succ (n : Nat) : bas (n + 1) = 1000000000 * bas n := rfl
theorem bas_add (m n : Nat) : bas (m + n) = bas m * bas n := by
  induction m with
  | zero => simp [bas]
  | succ m ih => rw [show m + 1 + n = m + n + 1 from by omega, bas, bas, ih, Nat.mul_assoc]
theorem bas_mono {m n : Nat} (h : m ≤ n) : bas m ≤ bas n := by
  obtain ⟨k, rfl⟩ := Nat.exists_eq_add_of_le h
  rw [bas_add]
  exact Nat.le_mul_of_pos_right _ (bas_pos k)

theorem val_lim (n : Nat) : val (lim n) = n := by
  induction n using Nat.strongRecOn with
  | _ n ih =>
    by_cases h : n = 0
    · subst h; rw [lim_zero]; rfl
    · rw [lim_pos h, val, ih (n / 1000000000) (by omega)]; omega
theorem dig_lim (n : Nat) : Dig (lim n) := by
  induction n using Nat.strongRecOn with
  | _ n ih =>
    by_cases h : n = 0
    · subst h; rw [lim_zero]; intro x hx; cases hx
    · rw [lim_pos h]
      intro x hx
      rcases List.mem_cons.1 hx with rfl | hx
      · omega
      · exact ih (n / 1000000000) (by omega) x hx
theorem lim_eq_nil {n : Nat} : lim n = [] ↔ n = 0 := by
  constructor
  · intro h
    rcases Nat.eq_zero_or_pos n with h0 | h0
    · exact h0
    · rw [lim_pos (by omega)] at h; cases h
  · rintro rfl; exact lim_zero
theorem lim_len_zero {n : Nat} : (lim n).length = 0 ↔ n = 0 := by rw [List.length_eq_zero_iff, lim_eq_nil]
/-- A number below a power of the base has no more limbs than the exponent says, and the other way round. -/
theorem lim_len_le {n k : Nat} : (lim n).length ≤ k ↔ n < bas k := by
  induction k generalizing n with
  | zero => rw [Nat.le_zero, lim_len_zero, bas]; omega
  | succ k ih =>
    by_cases h : n = 0
    · subst h; rw [lim_zero]; simp [bas_pos]
    · rw [lim_pos h, List.length_cons, Nat.add_le_add_iff_right, ih, bas]; omega
theorem lim_lt_bas (n : Nat) : n < bas (lim n).length := lim_len_le.1 (Nat.le_refl _)
theorem lim_len_mono {m n : Nat} (h : m ≤ n) : (lim m).length ≤ (lim n).length := lim_len_le.2 (Nat.lt_of_le_of_lt h (lim_lt_bas n))
theorem bas_le_of_len {n k : Nat} (h : k < (lim n).length) : bas k ≤ n := by
  rcases Nat.lt_or_ge n (bas k) with h1 | h1
  · have := lim_len_le.2 h1; omega
  · exact h1

theorem val_append (l m : List Nat) : val (l ++ m) = val l + bas l.length * val m := by
  induction l with
  | nil => simp [val, bas]
  | cons x l ih => simp only [List.cons_append, val, ih, List.length_cons, bas, Nat.mul_add, Nat.mul_assoc]; omega
theorem val_snoc (l : List Nat) (x : Nat) : val (l ++ [x]) = val l + bas l.length * x := by rw [val_append]; simp [val]
theorem val_lt {l : List Nat} (h : Dig l) : val l < bas l.length := by
  induction l with
  | nil => simp [val, bas]
  | cons x l ih =>
    have h1 := h x (by simp)
    have h2 := ih fun y hy => h y (by simp [hy])
    simp only [val, List.length_cons, bas]; omega
theorem val_replicate (n : Nat) : val (List.replicate n 0) = 0 := by
  induction n with
  | zero => rfl
  | succ n ih => rw [List.replicate_succ, val, ih]
theorem dig_take {l : List Nat} (h : Dig l) (k : Nat) : Dig (l.take k) := fun x hx => h x (List.mem_of_mem_take hx)
theorem dig_getD {l : List Nat} (h : Dig l) (k : Nat) : l.getD k 0 < 1000000000 := by
  by_cases hk : k < l.length
  · simpa [List.getD, hk] using h _ (List.getElem_mem hk)
  · simp [List.getD, List.getElem?_eq_none (Nat.le_of_not_lt hk)]
theorem take_snoc_getD (l : List Nat) {k : Nat} (h : k < l.length) : l.take (k + 1) = l.take k ++ [l.getD k 0] := by
  rw [List.take_succ_eq_append_getElem h]; simp [List.getD, h]
theorem val_take_succ (l : List Nat) {k : Nat} (h : k < l.length) : val (l.take (k + 1)) = val (l.take k) + bas k * l.getD k 0 := by
  rw [take_snoc_getD l h, val_snoc, List.length_take, Nat.min_eq_left (by omega)]
theorem val_take_len (l : List Nat) : val (l.take l.length) = val l := by rw [List.take_length]

/-- A list of limbs whose last is not zero is the limbs of its worth. -/
theorem lim_val {l : List Nat} (h : Dig l) (hl : ∀ x, l.getLast? = some x → x ≠ 0) : lim (val l) = l := by
  induction l with
  | nil => rw [val, lim_zero]
  | cons x l ih =>
    have hx := h x (by simp)
    have hd : Dig l := fun y hy => h y (by simp [hy])
    by_cases hn : l = []
    · subst hn
      have := hl x (by simp)
      rw [val, val, Nat.mul_zero, Nat.add_zero, lim_pos this, Nat.mod_eq_of_lt hx, Nat.div_eq_of_lt hx, lim_zero]
    · have hi := ih hd (fun y hy => hl y (by rw [List.getLast?_cons, hy]; rfl))
      have hv : val l ≠ 0 := fun e => hn (by rw [← hi, e, lim_zero])
      rw [val, lim_pos (by omega), show (x + 1000000000 * val l) % 1000000000 = x from by omega, show (x + 1000000000 * val l) / 1000000000 = val l from by omega, hi]
theorem lim_last (n : Nat) : ∀ x, (lim n).getLast? = some x → x ≠ 0 := by
  induction n using Nat.strongRecOn with
  | _ n ih =>
    intro x hx
    by_cases h : n = 0
    · subst h; rw [lim_zero] at hx; cases hx
    · rw [lim_pos h, List.getLast?_cons] at hx
      by_cases h2 : n / 1000000000 = 0
      · rw [h2, lim_zero] at hx; simp at hx; omega
      · have := ih (n / 1000000000) (by omega)
        cases hq : (lim (n / 1000000000)).getLast? with
        | none => rw [List.getLast?_eq_none_iff, lim_eq_nil] at hq; omega
        | some y => rw [hq] at hx; simp at hx; subst hx; exact this y hq
/-- Equal worth, equal limbs. -/
theorem lim_inj {m n : Nat} (h : lim m = lim n) : m = n := by rw [← val_lim m, ← val_lim n, h]

/-- How many limbs are left when the zeros at the end are cut. -/
def keep (l : List Nat) : Nat → Nat
  | 0 => 0
  | n + 1 => if l.getD n 0 = 0 then keep l n else n + 1
theorem keep_le (l : List Nat) (n : Nat) : keep l n ≤ n := by
  induction n with
  | zero => exact Nat.le_refl _
  | succ n ih => rw [keep]; split <;> omega
theorem keep_lim {l : List Nat} (h : Dig l) (n : Nat) (hn : n ≤ l.length) : l.take (keep l n) = lim (val (l.take n)) := by
  induction n with
  | zero => simp [keep, val, lim_zero]
  | succ n ih =>
    rw [keep]
    split
    · next h0 => rw [ih (by omega), val_take_succ l (by omega), h0]; simp
    · next h0 =>
      rw [lim_val (dig_take h _)]
      intro x hx
      rw [take_snoc_getD l (by omega), List.getLast?_append] at hx
      simp at hx
      rw [← hx]; simpa [List.getD] using h0
/-- What is left is the limbs of the worth. -/
theorem trim_lim {l : List Nat} (h : Dig l) : l.take (keep l l.length) = lim (val l) := by rw [keep_lim h _ (Nat.le_refl _), List.take_length]
theorem keep_len {l : List Nat} (h : Dig l) : keep l l.length = (lim (val l)).length := by
  rw [← trim_lim h, List.length_take, Nat.min_eq_left (keep_le _ _)]
/-- Limbs of a number: nothing is cut. -/
theorem keep_self (n : Nat) : keep (lim n) (lim n).length = (lim n).length := by rw [keep_len (dig_lim n), val_lim]

/-- Every number fits 32 bits. -/
def W32 (l : List Nat) : Prop := ∀ x ∈ l, x < 4294967296
theorem W32.getD {l : List Nat} (h : W32 l) (k : Nat) : l.getD k 0 < 4294967296 := by
  by_cases hk : k < l.length
  · simpa [List.getD, hk] using h _ (List.getElem_mem hk)
  · simp [List.getD, List.getElem?_eq_none (Nat.le_of_not_lt hk)]
theorem Dig.w32 {l : List Nat} (h : Dig l) : W32 l := fun x hx => Nat.lt_trans (h x hx) (by decide)
end Go.Proofs.YtijcijdgpeolhaaDoor
