/- Plain numbers: comparison of limbs, decimal digits of a number, the bound of 300 digits. No program is imported. -/
import Derived.Test.YtijcijdgpeolhaaDoorMath
namespace Go.Proofs.YtijcijdgpeolhaaDoor

/-- -1, 0 or 1 as a is less than, equal to or greater than b. -/
def cmpN (a b : Nat) : Int := if a < b then -1 else if b < a then 1 else 0
theorem cmpN_lt {a b : Nat} (h : a < b) : cmpN a b = -1 := by simp [cmpN, h]
theorem cmpN_gt {a b : Nat} (h : b < a) : cmpN a b = 1 := by unfold cmpN; rw [if_neg (by omega), if_pos h]
theorem cmpN_self (a : Nat) : cmpN a a = 0 := by simp [cmpN]

theorem val_split (l : List Nat) {k : Nat} (h : k < l.length) : val l = val (l.take k) + bas k * (l.getD k 0 + 1000000000 * val (l.drop (k + 1))) := by
  have e : l = l.take k ++ (l.getD k 0 :: l.drop (k + 1)) := by
    have : l.getD k 0 = l[k] := by simp [List.getD, h]
    rw [this, ← List.drop_eq_getElem_cons h, List.take_append_drop]
  conv => lhs; rw [e]
  rw [val_append, List.length_take, Nat.min_eq_left (by omega), val]
/-- The first difference from above decides. -/
theorem val_lt_of {l m : List Nat} (hl : Dig l) {k : Nat} (h1 : k < l.length) (h2 : k < m.length) (hd : l.drop (k + 1) = m.drop (k + 1)) (hlt : l.getD k 0 < m.getD k 0) : val l < val m := by
  have a := val_lt (dig_take hl k)
  rw [List.length_take, Nat.min_eq_left (by omega)] at a
  rw [val_split l h1, val_split m h2, hd]
  have hle : bas k * (l.getD k 0 + 1000000000 * val (m.drop (k + 1))) + bas k ≤ bas k * (m.getD k 0 + 1000000000 * val (m.drop (k + 1))) := by
    rw [← Nat.mul_succ]; exact Nat.mul_le_mul_left _ (by omega)
  omega
theorem lim_lt_of_len {a b : Nat} (h : (lim a).length < (lim b).length) : a < b := by
  rcases Nat.lt_or_ge a b with h1 | h1
  · exact h1
  · have := lim_len_mono h1; omega

/-- How many decimal digits a number has; 0 for zero. -/
def dgt (n : Nat) : Nat := if h : n = 0 then 0 else dgt (n / 10) + 1
termination_by n
decreasing_by omega
theorem dgt_zero : dgt 0 = 0 := by rw [dgt]; simp
theorem dgt_pos {n : Nat} (h : n ≠ 0) : dgt n = dgt (n / 10) + 1 := by rw [dgt]; simp [h]
theorem dgt_le {n k : Nat} : dgt n ≤ k ↔ n < 10 ^ k := by
  induction k generalizing n with
  | zero =>
    by_cases h : n = 0
    · subst h; simp [dgt_zero]
    · rw [dgt_pos h]; simp; omega
  | succ k ih =>
    by_cases h : n = 0
    · subst h; simp [dgt_zero, Nat.pow_pos]
    · rw [dgt_pos h, Nat.add_le_add_iff_right, ih, Nat.pow_succ]; omega
theorem dgt_le_self (n : Nat) : dgt n ≤ n := by
  induction n using Nat.strongRecOn with
  | _ n ih =>
    by_cases h : n = 0
    · subst h; simp [dgt_zero]
    · rw [dgt_pos h]; have := ih (n / 10) (by omega); omega

/-- The decimal digits of trimmed limbs. -/
def digs (l : List Nat) : Nat := if l.length = 0 then 0 else 9 * (l.length - 1) + dgt (l.getD (l.length - 1) 0)
/-- One more than the greatest absolute value: 10^300. -/
def top300 : Nat := 1000 * bas 33
theorem getLast_getD {l : List Nat} (h : l ≠ []) : l.getLast? = some (l.getD (l.length - 1) 0) := by
  have hp : 0 < l.length := List.length_pos_iff.2 h
  have hq : l.length - 1 < l.length := by omega
  rw [List.getLast?_eq_getElem?, List.getD, List.getElem?_eq_getElem hq]; rfl
theorem digs_raw {l : List Nat} (h : Dig l) (hl : l.getD (l.length - 1) 0 ≠ 0) : digs l ≤ 300 ↔ val l < top300 := by
  have hp : 0 < l.length := by
    rcases Nat.eq_zero_or_pos l.length with h0 | h0
    · rw [List.length_eq_zero_iff] at h0; subst h0; simp at hl
    · exact h0
  have hs := val_split l (k := l.length - 1) (by omega)
  rw [List.drop_eq_nil_of_le (by omega), val, Nat.mul_zero, Nat.add_zero] at hs
  have ht := val_lt (dig_take h (l.length - 1))
  rw [List.length_take, Nat.min_eq_left (by omega)] at ht
  have htop := dig_getD h (l.length - 1)
  obtain ⟨t, ht'⟩ : ∃ t, t = l.getD (l.length - 1) 0 := ⟨_, rfl⟩
  rw [← ht'] at hs htop hl
  have d9 : dgt t ≤ 9 := dgt_le.2 (by omega)
  unfold digs top300
  rw [if_neg (by omega), ← ht']
  rcases Nat.lt_trichotomy (l.length - 1) 33 with h33 | h33 | h33
  · have hb : bas (l.length - 1) ≤ bas 32 := bas_mono (by omega)
    have h32 : bas 33 = 1000000000 * bas 32 := rfl
    have hm : bas (l.length - 1) * t ≤ bas 32 * 999999999 := Nat.mul_le_mul hb (by omega)
    constructor
    · intro _; omega
    · intro _; omega
  · rw [h33] at hs ht
    have hiff : dgt t ≤ 3 ↔ t < 1000 := dgt_le
    constructor
    · intro hd
      have hlt : t < 1000 := hiff.1 (by omega)
      have : bas 33 * t ≤ bas 33 * 999 := Nat.mul_le_mul_left _ (by omega)
      rw [h33] at hd; omega
    · intro hv
      have hlt : t < 1000 := by
        rcases Nat.lt_or_ge t 1000 with h1 | h1
        · exact h1
        · have : bas 33 * 1000 ≤ bas 33 * t := Nat.mul_le_mul_left _ h1
          omega
      have := hiff.2 hlt
      rw [h33]; omega
  · have hb : bas 34 ≤ bas (l.length - 1) := bas_mono (by omega)
    have h34 : bas 34 = 1000000000 * bas 33 := rfl
    have hm : bas (l.length - 1) * 1 ≤ bas (l.length - 1) * t := Nat.mul_le_mul_left _ (by omega)
    have := bas_pos 33
    constructor
    · intro hd; omega
    · intro hv; omega
theorem digs_lim (n : Nat) : digs (lim n) ≤ 300 ↔ n < top300 := by
  by_cases h : n = 0
  · subst h; rw [lim_zero]; simp [digs, top300, bas_pos]
  · have hn : lim n ≠ [] := fun e => h (lim_eq_nil.1 e)
    rw [digs_raw (dig_lim n) (lim_last n _ (getLast_getD hn)), val_lim]
theorem len_of_top {n : Nat} (h : n < top300) : (lim n).length ≤ 34 := lim_len_le.2 (by have : bas 34 = 1000000000 * bas 33 := rfl; have := bas_pos 33; unfold top300 at h; omega)
theorem digs_le (l : List Nat) (h : W32 l) : digs l ≤ 9 * l.length + 10 := by
  unfold digs
  split
  · omega
  · have : dgt (l.getD (l.length - 1) 0) ≤ 10 := dgt_le.2 (Nat.lt_of_lt_of_le (W32.getD h _) (by decide))
    omega
end Go.Proofs.YtijcijdgpeolhaaDoor
