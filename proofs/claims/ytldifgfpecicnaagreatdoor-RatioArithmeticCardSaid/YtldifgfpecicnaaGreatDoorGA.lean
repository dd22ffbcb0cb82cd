import Derived.KernelRfl
/- Plain numbers: a natural number's limbs to the base 10^9, least first; what a list of limbs is worth; that a trimmed list of limbs is the limbs of its worth. No program is imported. -/
namespace Go.Proofs.YtldifgfpecicnaaGreatDoor

/-- The limbs of a number. -/
def lim (n : Nat) : List Nat := if h : n = 0 then [] else n % 1000000000 :: lim (n / 1000000000)
termination_by n
decreasing_by omega

/-- What limbs are worth. -/
def val : List Nat → Nat
  | [] => 0
  | x :: l => x + 1000000000 * val l

/-- The base to a power. -/
def bas : Nat → Nat
  | 0 => 1
  | n + 1 => 1000000000 * bas n

/-- Every limb is one of the base. -/
def Dig (l : List Nat) : Prop := ∀ x ∈ l, x < 1000000000

theorem lim_zero : lim 0 = [] := by rw [lim]; simp
theorem lim_pos {n : Nat} (h : n ≠ 0) : lim n = n % 1000000000 :: lim (n / 1000000000) := by rw [lim]; simp [h]
theorem bas_pos (n : Nat) : 0 < bas n := by
  induction n with
  | zero => simp [bas]
  | succ n ih => simp only [bas]; omega
theorem bas_succ (n : Nat) : bas (n + 1) = 1000000000 * bas n := rfl
theorem bas_add (m n : Nat) : bas (m + n) = bas m * bas n := by
  induction m with
  | zero => simp [bas]
  | succ m ih => rw [show m + 1 + n = m + n + 1 from by omega, bas, bas, ih, Nat.mul_assoc]
theorem bas_mono {m n : Nat} (h : m ≤ n) : bas m ≤ bas n := by
  obtain ⟨k, rfl⟩ := Nat.exists_eq_add_of_le h
  rw [bas_add]
  exact Nat.le_mul_of_pos_right _ (bas_pos k)

theorem val_lim (n : Nat) : val (lim n) = n := by
  induction n using Nat.strongRecOn with
  | _ n ih =>
    by_cases h : n = 0
    · subst h; rw [lim_zero]; rfl
    · rw [lim_pos h, val, ih (n / 1000000000) (by omega)]; omega
theorem dig_lim (n : Nat) : Dig (lim n) := by
  induction n using Nat.strongRecOn with
  | _ n ih =>
    by_cases h : n = 0
    · subst h; rw [lim_zero]; intro x hx; cases hx
    · rw [lim_pos h]
      intro x hx
      rcases List.mem_cons.1 hx with rfl | hx
      · omega
      · exact ih (n / 1000000000) (by omega) x hx
theorem lim_eq_nil {n : Nat} : lim n = [] ↔ n = 0 := by
  constructor
  · intro h
    rcases Nat.eq_zero_or_pos n with h0 | h0
    · exact h0
    · rw [lim_pos (by omega)] at h; cases h
  · rintro rfl; exact lim_zero
theorem lim_len_zero {n : Nat} : (lim n).length = 0 ↔ n = 0 := by rw [List.length_eq_zero_iff, lim_eq_nil]
/-- A number below a power of the base has no more limbs than the exponent says, and the other way round. -/
theorem lim_len_le {n k : Nat} : (lim n).length ≤ k ↔ n < bas k := by
  induction k generalizing n with
  | zero => rw [Nat.le_zero, lim_len_zero, bas]; omega
  | succ k ih =>
    by_cases h : n = 0
    · subst h; rw [lim_zero]; simp [bas_pos]
    · rw [lim_pos h, List.length_cons, Nat.add_le_add_iff_right, ih, bas]; omega
theorem lim_lt_bas (n : Nat) : n < bas (lim n).length := lim_len_le.1 (Nat.le_refl _)
theorem lim_len_mono {m n : Nat} (h : m ≤ n) : (lim m).length ≤ (lim n).length := lim_len_le.2 (Nat.lt_of_le_of_lt h (lim_lt_bas n))
theorem bas_le_of_len {n k : Nat} (h : k < (lim n).length) : bas k ≤ n := by
  rcases Nat.lt_or_ge n (bas k) with h1 | h1
  · have := lim_len_le.2 h1; omega
  · exact h1

theorem val_append (l m : List Nat) : val (l ++ m) = val l + bas l.length * val m := by
  induction l with
  | nil => simp [val, bas]
  | cons x l ih => simp only [List.cons_append, val, ih, List.length_cons, bas, Nat.mul_add, Nat.mul_assoc]; omega
theorem val_snoc (l : List Nat) (x : Nat) : val (l ++ [x]) = val l + bas l.length * x := by rw [val_append]; simp [val]
theorem val_lt {l : List Nat} (h : Dig l) : val l < bas l.length := by
  induction l with
  | nil => simp [val, bas]
  | cons x l ih =>
    have h1 := h x (by simp)
    have h2 := ih fun y hy => h y (by simp [hy])
    simp only [val, List.length_cons, bas]; omega
theorem val_replicate (n : Nat) : val (List.replicate n 0) = 0 := by
  induction n with
  | zero => rfl
  | succ n ih => rw [List.replicate_succ, val, ih]
theorem dig_take {l : List Nat} (h : Dig l) (k : Nat) : Dig (l.take k) := fun x hx => h x (List.mem_of_mem_take hx)
theorem dig_getD {l : List Nat} (h : Dig l) (k : Nat) : l.getD k 0 < 1000000000 := by
  by_cases hk : k < l.length
  · simpa [List.getD, hk] using h _ (List.getElem_mem hk)
  · simp [List.getD, List.getElem?_eq_none (Nat.le_of_not_lt hk)]
theorem take_snoc_getD (l : List Nat) {k : Nat} (h : k < l.length) : l.take (k + 1) = l.take k ++ [l.getD k 0] := by
  rw [List.take_succ_eq_append_getElem h]; simp [List.getD, h]
theorem val_take_succ (l : List Nat) {k : Nat} (h : k < l.length) : val (l.take (k + 1)) = val (l.take k) + bas k * l.getD k 0 := by
  rw [take_snoc_getD l h, val_snoc, List.length_take, Nat.min_eq_left (by omega)]
theorem val_take_len (l : List Nat) : val (l.take l.length) = val l := by rw [List.take_length]

/-- A list of limbs whose last is not zero is the limbs of its worth. -/
theorem lim_val {l : List Nat} (h : Dig l) (hl : ∀ x, l.getLast? = some x → x ≠ 0) : lim (val l) = l := by
  induction l with
  | nil => rw [val, lim_zero]
  | cons x l ih =>
    have hx := h x (by simp)
    have hd : Dig l := fun y hy => h y (by simp [hy])
    by_cases hn : l = []
    · subst hn
      have := hl x (by simp)
      rw [val, val, Nat.mul_zero, Nat.add_zero, lim_pos this, Nat.mod_eq_of_lt hx, Nat.div_eq_of_lt hx, lim_zero]
    · have hi := ih hd (fun y hy => hl y (by rw [List.getLast?_cons, hy]; rfl))
      have hv : val l ≠ 0 := fun e => hn (by rw [← hi, e, lim_zero])
      rw [val, lim_pos (by omega), show (x + 1000000000 * val l) % 1000000000 = x from by omega, show (x + 1000000000 * val l) / 1000000000 = val l from by omega, hi]
theorem lim_last (n : Nat) : ∀ x, (lim n).getLast? = some x → x ≠ 0 := by
  induction n using Nat.strongRecOn with
  | _ n ih =>
    intro x hx
    by_cases h : n = 0
    · subst h; rw [lim_zero] at hx; cases hx
    · rw [lim_pos h, List.getLast?_cons] at hx
      by_cases h2 : n / 1000000000 = 0
      · rw [h2, lim_zero] at hx; simp at hx; omega
      · have := ih (n / 1000000000) (by omega)
        cases hq : (lim (n / 1000000000)).getLast? with
        | none => rw [List.getLast?_eq_none_iff, lim_eq_nil] at hq; omega
        | some y => rw [hq] at hx; simp at hx; subst hx; exact this y hq
/-- Equal worth, equal limbs. -/
theorem lim_inj {m n : Nat} (h : lim m = lim n) : m = n := by rw [← val_lim m, ← val_lim n, h]

/-- How many limbs are left when the zeros at the end are cut. -/
def keep (l : List Nat) : Nat → Nat
  | 0 => 0
  | n + 1 => if l.getD n 0 = 0 then keep l n else n + 1
theorem keep_le (l : List Nat) (n : Nat) : keep l n ≤ n := by
  induction n with
  | zero => exact Nat.le_refl _
  | succ n ih => rw [keep]; split <;> omega
theorem keep_lim {l : List Nat} (h : Dig l) (n : Nat) (hn : n ≤ l.length) : l.take (keep l n) = lim (val (l.take n)) := by
  induction n with
  | zero => simp [keep, val, lim_zero]
  | succ n ih =>
    rw [keep]
    split
    · next h0 => rw [ih (by omega), val_take_succ l (by omega), h0]; simp
    · next h0 =>
      rw [lim_val (dig_take h _)]
      intro x hx
      rw [take_snoc_getD l (by omega), List.getLast?_append] at hx
      simp at hx
      rw [← hx]; simpa [List.getD] using h0
/-- What is left is the limbs of the worth. -/
theorem trim_lim {l : List Nat} (h : Dig l) : l.take (keep l l.length) = lim (val l) := by rw [keep_lim h _ (Nat.le_refl _), List.take_length]
theorem keep_len {l : List Nat} (h : Dig l) : keep l l.length = (lim (val l)).length := by
  rw [← trim_lim h, List.length_take, Nat.min_eq_left (keep_le _ _)]
/-- Limbs of a number: nothing is cut. -/
theorem keep_self (n : Nat) : keep (lim n) (lim n).length = (lim n).length := by rw [keep_len (dig_lim n), val_lim]

/-- Every number fits 32 bits. -/
def W32 (l : List Nat) : Prop := ∀ x ∈ l, x < 4294967296
theorem W32.getD {l : List Nat} (h : W32 l) (k : Nat) : l.getD k 0 < 4294967296 := by
  by_cases hk : k < l.length
  · simpa [List.getD, hk] using h _ (List.getElem_mem hk)
  · simp [List.getD, List.getElem?_eq_none (Nat.le_of_not_lt hk)]
theorem Dig.w32 {l : List Nat} (h : Dig l) : W32 l := fun x hx => Nat.lt_trans (h x hx) (by decide)
end Go.Proofs.YtldifgfpecicnaaGreatDoor
/- Plain numbers: comparison of limbs, decimal digits of a number, the bound of 300 digits. No program is imported. -/
namespace Go.Proofs.YtldifgfpecicnaaGreatDoor

/-- -1, 0 or 1 as a is less than, equal to or greater than b. -/
def cmpN (a b : Nat) : Int := if a < b then -1 else if b < a then 1 else 0
theorem cmpN_lt {a b : Nat} (h : a < b) : cmpN a b = -1 := by simp [cmpN, h]
theorem cmpN_gt {a b : Nat} (h : b < a) : cmpN a b = 1 := by unfold cmpN; rw [if_neg (by omega), if_pos h]
theorem cmpN_self (a : Nat) : cmpN a a = 0 := by simp [cmpN]

theorem val_split (l : List Nat) {k : Nat} (h : k < l.length) : val l = val (l.take k) + bas k * (l.getD k 0 + 1000000000 * val (l.drop (k + 1))) := by
  have e : l = l.take k ++ (l.getD k 0 :: l.drop (k + 1)) := by
    have : l.getD k 0 = l[k] := by simp [List.getD, h]
    rw [this, ← List.drop_eq_getElem_cons h, List.take_append_drop]
  conv => lhs; rw [e]
  rw [val_append, List.length_take, Nat.min_eq_left (by omega), val]
/-- The first difference from above decides. -/
theorem val_lt_of {l m : List Nat} (hl : Dig l) {k : Nat} (h1 : k < l.length) (h2 : k < m.length) (hd : l.drop (k + 1) = m.drop (k + 1)) (hlt : l.getD k 0 < m.getD k 0) : val l < val m := by
  have a := val_lt (dig_take hl k)
  rw [List.length_take, Nat.min_eq_left (by omega)] at a
  rw [val_split l h1, val_split m h2, hd]
  have hle : bas k * (l.getD k 0 + 1000000000 * val (m.drop (k + 1))) + bas k ≤ bas k * (m.getD k 0 + 1000000000 * val (m.drop (k + 1))) := by
    rw [← Nat.mul_succ]; exact Nat.mul_le_mul_left _ (by omega)
  omega
theorem lim_lt_of_len {a b : Nat} (h : (lim a).length < (lim b).length) : a < b := by
  rcases Nat.lt_or_ge a b with h1 | h1
  · exact h1
  · have := lim_len_mono h1; omega

/-- How many decimal digits a number has; 0 for zero. -/
def dgt (n : Nat) : Nat := if h : n = 0 then 0 else dgt (n / 10) + 1
termination_by n
decreasing_by omega
theorem dgt_zero : dgt 0 = 0 := by rw [dgt]; simp
theorem dgt_pos {n : Nat} (h : n ≠ 0) : dgt n = dgt (n / 10) + 1 := by rw [dgt]; simp [h]
theorem dgt_le {n k : Nat} : dgt n ≤ k ↔ n < 10 ^ k := by
  induction k generalizing n with
  | zero =>
    by_cases h : n = 0
    · subst h; simp [dgt_zero]
    · rw [dgt_pos h]; simp; omega
  | succ k ih =>
    by_cases h : n = 0
    · subst h; simp [dgt_zero, Nat.pow_pos]
    · rw [dgt_pos h, Nat.add_le_add_iff_right, ih, Nat.pow_succ]; omega
theorem dgt_le_self (n : Nat) : dgt n ≤ n := by
  induction n using Nat.strongRecOn with
  | _ n ih =>
    by_cases h : n = 0
    · subst h; simp [dgt_zero]
    · rw [dgt_pos h]; have := ih (n / 10) (by omega); omega

/-- The decimal digits of trimmed limbs. -/
def digs (l : List Nat) : Nat := if l.length = 0 then 0 else 9 * (l.length - 1) + dgt (l.getD (l.length - 1) 0)
/-- One more than the greatest absolute value: 10^300. -/
def top300 : Nat := 1000 * bas 33
theorem getLast_getD {l : List Nat} (h : l ≠ []) : l.getLast? = some (l.getD (l.length - 1) 0) := by
  have hp : 0 < l.length := List.length_pos_iff.2 h
  have hq : l.length - 1 < l.length := by omega
  rw [List.getLast?_eq_getElem?, List.getD, List.getElem?_eq_getElem hq]; rfl
theorem digs_raw {l : List Nat} (h : Dig l) (hl : l.getD (l.length - 1) 0 ≠ 0) : digs l ≤ 300 ↔ val l < top300 := by
  have hp : 0 < l.length := by
    rcases Nat.eq_zero_or_pos l.length with h0 | h0
    · rw [List.length_eq_zero_iff] at h0; subst h0; simp at hl
    · exact h0
  have hs := val_split l (k := l.length - 1) (by omega)
  rw [List.drop_eq_nil_of_le (by omega), val, Nat.mul_zero, Nat.add_zero] at hs
  have ht := val_lt (dig_take h (l.length - 1))
  rw [List.length_take, Nat.min_eq_left (by omega)] at ht
  have htop := dig_getD h (l.length - 1)
  obtain ⟨t, ht'⟩ : ∃ t, t = l.getD (l.length - 1) 0 := ⟨_, rfl⟩
  rw [← ht'] at hs htop hl
  have d9 : dgt t ≤ 9 := dgt_le.2 (by omega)
  unfold digs top300
  rw [if_neg (by omega), ← ht']
  rcases Nat.lt_trichotomy (l.length - 1) 33 with h33 | h33 | h33
  · have hb : bas (l.length - 1) ≤ bas 32 := bas_mono (by omega)
    have h32 : bas 33 = 1000000000 * bas 32 := rfl
    have hm : bas (l.length - 1) * t ≤ bas 32 * 999999999 := Nat.mul_le_mul hb (by omega)
    constructor
    · intro _; omega
    · intro _; omega
  · rw [h33] at hs ht
    have hiff : dgt t ≤ 3 ↔ t < 1000 := dgt_le
    constructor
    · intro hd
      have hlt : t < 1000 := hiff.1 (by omega)
      have : bas 33 * t ≤ bas 33 * 999 := Nat.mul_le_mul_left _ (by omega)
      rw [h33] at hd; omega
    · intro hv
      have hlt : t < 1000 := by
        rcases Nat.lt_or_ge t 1000 with h1 | h1
        · exact h1
        · have : bas 33 * 1000 ≤ bas 33 * t := Nat.mul_le_mul_left _ h1
          omega
      have := hiff.2 hlt
      rw [h33]; omega
  · have hb : bas 34 ≤ bas (l.length - 1) := bas_mono (by omega)
    have h34 : bas 34 = 1000000000 * bas 33 := rfl
    have hm : bas (l.length - 1) * 1 ≤ bas (l.length - 1) * t := Nat.mul_le_mul_left _ (by omega)
    have := bas_pos 33
    constructor
    · intro hd; omega
    · intro hv; omega
theorem digs_lim (n : Nat) : digs (lim n) ≤ 300 ↔ n < top300 := by
  by_cases h : n = 0
  · subst h; rw [lim_zero]; simp [digs, top300, bas_pos]
  · have hn : lim n ≠ [] := fun e => h (lim_eq_nil.1 e)
    rw [digs_raw (dig_lim n) (lim_last n _ (getLast_getD hn)), val_lim]
theorem len_of_top {n : Nat} (h : n < top300) : (lim n).length ≤ 34 := lim_len_le.2 (by have : bas 34 = 1000000000 * bas 33 := rfl; have := bas_pos 33; unfold top300 at h; omega)
theorem digs_le (l : List Nat) (h : W32 l) : digs l ≤ 9 * l.length + 10 := by
  unfold digs
  split
  · omega
  · have : dgt (l.getD (l.length - 1) 0) ≤ 10 := dgt_le.2 (Nat.lt_of_lt_of_le (W32.getD h _) (by decide))
    omega
end Go.Proofs.YtldifgfpecicnaaGreatDoor
/- Plain numbers: one round of a subtraction, of a product with a single limb. No program is imported. -/
namespace Go.Proofs.YtldifgfpecicnaaGreatDoor

theorem val_take_step (l : List Nat) (k : Nat) : val (l.take (k + 1)) = val (l.take k) + bas k * l.getD k 0 := by
  by_cases h : k < l.length
  · exact val_take_succ l h
  · rw [List.take_of_length_le (by omega), List.take_of_length_le (by omega)]
    simp [List.getD, List.getElem?_eq_none (Nat.le_of_not_lt h)]
theorem dig_snoc {o : List Nat} (h : Dig o) {x : Nat} (hx : x < 1000000000) : Dig (o ++ [x]) := by
  intro y hy
  rcases List.mem_append.1 hy with h1 | h1
  · exact h y h1
  · simp at h1; omega
theorem split_bas (k s : Nat) : bas k * s = bas k * (s % 1000000000) + bas (k + 1) * (s / 1000000000) := by
  have e : s = s % 1000000000 + 1000000000 * (s / 1000000000) := by omega
  conv => lhs; rw [e]
  rw [Nat.mul_add, ← Nat.mul_assoc, Nat.mul_comm (bas k) 1000000000, bas_succ]

/-- One round of a subtraction with borrow. -/
theorem sub_step {a b o : List Nat} {k c s : Nat} (ha : Dig a) (hb : Dig b) (hlen : o.length = k) (hc : c ≤ 1) (hv : val o + val (b.take k) = val (a.take k) + bas k * c) (hs : s + b.getD k 0 + c = a.getD k 0 + 1000000000) (ho : Dig o) :
    (o ++ [s % 1000000000]).length = k + 1 ∧ s / 1000000000 ≤ 1 ∧ Dig (o ++ [s % 1000000000]) ∧ val (o ++ [s % 1000000000]) + val (b.take (k + 1)) = val (a.take (k + 1)) + bas (k + 1) * (1 - s / 1000000000) := by
  have h1 := dig_getD ha k
  have h2 := dig_getD hb k
  refine ⟨by simp [hlen], by omega, dig_snoc ho (by omega), ?_⟩
  rw [val_take_step, val_take_step, val_snoc, hlen, bas]
  have e : s % 1000000000 + b.getD k 0 + c = a.getD k 0 + 1000000000 * (1 - s / 1000000000) := by omega
  have e2 : bas k * (s % 1000000000) + bas k * b.getD k 0 + bas k * c = bas k * a.getD k 0 + 1000000000 * bas k * (1 - s / 1000000000) := by
    rw [← Nat.mul_add, ← Nat.mul_add, e, Nat.mul_add, ← Nat.mul_assoc, Nat.mul_comm (bas k) 1000000000]
  omega
/-- The end of a subtraction: nothing is borrowed. -/
theorem sub_end {a b : Nat} {o : List Nat} {c : Nat} (hle : b ≤ a) (hlen : o.length = (lim a).length) (hc : c ≤ 1) (ho : Dig o) (hv : val o + val ((lim b).take (lim a).length) = val ((lim a).take (lim a).length) + bas (lim a).length * c) : val o = a - b := by
  rw [List.take_of_length_le (lim_len_mono hle), List.take_of_length_le (Nat.le_refl _), val_lim, val_lim] at hv
  have h1 := val_lt ho
  rw [hlen] at h1
  rcases Nat.lt_or_ge c 1 with h | h
  · obtain rfl : c = 0 := by omega
    omega
  · obtain rfl : c = 1 := by omega
    omega

/-- One round of a product with a single limb, moved up by u limbs. -/
theorem times_step {a o : List Nat} {k c q u s : Nat} (ha : Dig a) (hq : q < 1000000000) (hlen : o.length = u + k) (hc : c < 1000000000) (hv : val o + bas (u + k) * c = bas u * (val (a.take k) * q)) (hs : s = a.getD k 0 * q + c) (ho : Dig o) :
    (o ++ [s % 1000000000]).length = u + (k + 1) ∧ s / 1000000000 < 1000000000 ∧ Dig (o ++ [s % 1000000000]) ∧ val (o ++ [s % 1000000000]) + bas (u + (k + 1)) * (s / 1000000000) = bas u * (val (a.take (k + 1)) * q) := by
  have h1 := dig_getD ha k
  have h2 : a.getD k 0 * q ≤ 999999999 * 999999999 := Nat.mul_le_mul (by omega) (by omega)
  refine ⟨by simp [hlen]; omega, by omega, dig_snoc ho (by omega), ?_⟩
  have e := split_bas (u + k) s
  rw [val_snoc, hlen, val_take_step, show u + (k + 1) = u + k + 1 from by omega]
  have e3 : bas (u + k) * s = bas u * (bas k * a.getD k 0 * q) + bas (u + k) * c := by
    rw [hs, Nat.mul_add, bas_add, Nat.mul_assoc, Nat.mul_assoc (bas k)]
  rw [Nat.add_mul, Nat.mul_add]
  omega
end Go.Proofs.YtldifgfpecicnaaGreatDoor
/- Plain numbers: one round of a long division, limb by limb. No program is imported. -/
namespace Go.Proofs.YtldifgfpecicnaaGreatDoor

theorem val_drop_step (l : List Nat) {k : Nat} (h : k < l.length) : val (l.drop k) = l.getD k 0 + 1000000000 * val (l.drop (k + 1)) := by
  rw [List.drop_eq_getElem_cons h, val]; simp [List.getD, h]
theorem val_drop_set (l : List Nat) {k x : Nat} (h : k < l.length) : val ((l.set k x).drop k) = x + 1000000000 * val (l.drop (k + 1)) := by
  rw [val_drop_step _ (by simpa using h)]
  have h1 : (l.set k x).getD k 0 = x := by simp [List.getD, h]
  have h2 : (l.set k x).drop (k + 1) = l.drop (k + 1) := by rw [List.drop_set_of_lt (by omega)]
  rw [h1, h2]
theorem dig_set {l : List Nat} (h : Dig l) {k x : Nat} (hx : x < 1000000000) : Dig (l.set k x) := fun y hy => by
  rcases List.mem_or_eq_of_mem_set hy with h1 | rfl
  · exact h y h1
  · exact hx
/-- The quotient's next limb and the next remainder. -/
theorem div_step {x r b q : Nat} (hx : x < 1000000000) (hr : r < b) (h1 : q * b ≤ x + 1000000000 * r) (h2 : x + 1000000000 * r < (q + 1) * b) : q < 1000000000 ∧ x + 1000000000 * r - q * b < b := by
  constructor
  · have h3 : x + 1000000000 * r < 1000000000 * b := by omega
    rcases Nat.lt_or_ge q 1000000000 with h | h
    · exact h
    · have := Nat.mul_le_mul_right b h; omega
  · rw [Nat.add_mul] at h2; omega
theorem div_keep {av x r b q vq r' : Nat} (hr' : r' = x + 1000000000 * r - q * b) (hle : q * b ≤ x + 1000000000 * r) (hv : av = vq * b + r) : x + 1000000000 * av = (q + 1000000000 * vq) * b + r' := by
  rw [hv, hr', Nat.add_mul, Nat.mul_add, Nat.mul_assoc]; omega
theorem div_end {a b q r : Nat} (h : a = q * b + r) (hr : r < b) : q = a / b ∧ r = a % b := by
  have h0 : 0 < b := by omega
  constructor
  · rw [h, Nat.mul_comm, Nat.mul_add_div h0, Nat.div_eq_of_lt hr]; rfl
  · rw [h, Nat.mul_comm, Nat.mul_add_mod, Nat.mod_eq_of_lt hr]
end Go.Proofs.YtldifgfpecicnaaGreatDoor
/- Plain numbers: rounds that write a limb at its place. No program is imported. -/
namespace Go.Proofs.YtldifgfpecicnaaGreatDoor

theorem take_set_succ (L : List Nat) {k d : Nat} (h : k < L.length) : (L.set k d).take (k + 1) = L.take k ++ [d] := by
  rw [take_snoc_getD _ (by simpa using h), List.take_set_of_le (by omega)]
  simp [List.getD, h]
theorem val_take_set (L : List Nat) {k d : Nat} (h : k < L.length) : val ((L.set k d).take (k + 1)) = val (L.take k) + bas k * d := by
  rw [take_set_succ L h, val_snoc, List.length_take, Nat.min_eq_left (by omega)]
/-- One round of a sum with carry. -/
theorem plus_step {a b L : List Nat} {k c s : Nat} (hk : k < L.length) (hv : val (L.take k) + bas k * c = val (a.take k) + val (b.take k)) (hs : s = a.getD k 0 + b.getD k 0 + c) :
    val ((L.set k (s % 1000000000)).take (k + 1)) + bas (k + 1) * (s / 1000000000) = val (a.take (k + 1)) + val (b.take (k + 1)) := by
  rw [val_take_set L hk, val_take_step, val_take_step]
  have e := split_bas k s
  have e3 : bas k * s = bas k * a.getD k 0 + bas k * b.getD k 0 + bas k * c := by rw [hs, Nat.mul_add, Nat.mul_add]
  omega
/-- One round of a difference with borrow, in place: L still holds a's limbs from k on. -/
theorem minus_step {a b L : List Nat} {k c d c' : Nat} (hk : k < L.length) (hv : val (L.take k) + val (b.take k) = val (a.take k) + bas k * c) (hd : d + b.getD k 0 + c = a.getD k 0 + 1000000000 * c') :
    val ((L.set k d).take (k + 1)) + val (b.take (k + 1)) = val (a.take (k + 1)) + bas (k + 1) * c' := by
  rw [val_take_set L hk, val_take_step, val_take_step, bas_succ]
  have e2 : bas k * d + bas k * b.getD k 0 + bas k * c = bas k * a.getD k 0 + 1000000000 * bas k * c' := by
    rw [← Nat.mul_add, ← Nat.mul_add, hd, Nat.mul_add, ← Nat.mul_assoc, Nat.mul_comm (bas k) 1000000000]
  omega
theorem getD_set_ne {L : List Nat} {k j d : Nat} (h : k ≠ j) : (L.set k d).getD j 0 = L.getD j 0 := by simp [List.getD, h]
theorem getD_set_eq {L : List Nat} {k d : Nat} (h : k < L.length) : (L.set k d).getD k 0 = d := by simp [List.getD, h]
end Go.Proofs.YtldifgfpecicnaaGreatDoor
/- Plain numbers: one round of the schoolbook product. No program is imported. -/
namespace Go.Proofs.YtldifgfpecicnaaGreatDoor

theorem val_set (L : List Nat) {p d : Nat} (h : p < L.length) : val (L.set p d) + bas p * L.getD p 0 = val L + bas p * d := by
  have h1 := val_split (L.set p d) (k := p) (by simpa using h)
  have h2 := val_split L (k := p) h
  rw [List.take_set_of_le (by omega), getD_set_eq h, List.drop_set_of_lt (by omega)] at h1
  rw [h1, h2, Nat.mul_add, Nat.mul_add]
  omega
theorem mul_step {L : List Nat} {p c t xy V : Nat} (hp : p < L.length) (ht : t = L.getD p 0 + xy + c) (hv : val L + bas p * c = V) :
    val (L.set p (t % 1000000000)) + bas (p + 1) * (t / 1000000000) = V + bas p * xy := by
  have h1 := val_set L (p := p) (d := t % 1000000000) hp
  have h2 := split_bas p t
  have h3 : bas p * t = bas p * L.getD p 0 + bas p * xy + bas p * c := by rw [ht, Nat.mul_add, Nat.mul_add]
  omega
theorem mul_carry {q x y c t : Nat} (hq : q < 1000000000) (hx : x < 1000000000) (hy : y < 1000000000) (hc : c < 1000000000) (ht : t = q + x * y + c) : t / 1000000000 < 1000000000 ∧ x * y ≤ 999999998000000001 := by
  have h : x * y ≤ 999999999 * 999999999 := Nat.mul_le_mul (by omega) (by omega)
  constructor <;> omega
end Go.Proofs.YtldifgfpecicnaaGreatDoor
/- Plain numbers: long division with a guess from three limbs over two. No program is imported. -/
namespace Go.Proofs.YtldifgfpecicnaaGreatDoor

theorem guess_math {W T D P b wl bl : Nat} (hW : W = T * P + wl) (hwl : wl < P) (hb : b = D * P + bl) (hbl : bl < P) (hD : 1000000000 ≤ D) (hlt : W < 1000000000 * b) :
    W / b ≤ T / D ∧ T / D ≤ W / b + 1 ∧ T / D ≤ 1000000000 := by
  have hD0 : 0 < D := by omega
  have hP : 0 < P := by omega
  have hb0 : 0 < b := by rw [hb]; exact Nat.lt_of_lt_of_le (Nat.mul_pos hD0 hP) (Nat.le_add_right _ _)
  obtain ⟨q, hq⟩ : ∃ q, q = W / b := ⟨_, rfl⟩
  obtain ⟨t, ht⟩ : ∃ t, t = T / D := ⟨_, rfl⟩
  rw [← hq, ← ht]
  have h1 : q * b ≤ W := by rw [hq]; exact Nat.div_mul_le_self W b
  have h2 : t * D ≤ T := by rw [ht]; exact Nat.div_mul_le_self T D
  have hWT : W < (T + 1) * P := by rw [hW, Nat.add_mul]; omega
  have h3 : q * D * P ≤ q * b := by rw [hb, Nat.mul_add, Nat.mul_assoc]; exact Nat.le_add_right _ _
  have h4 : q * D < T + 1 := Nat.lt_of_mul_lt_mul_right (a := P) (by omega)
  have hqt : q ≤ t := by rw [ht]; exact (Nat.le_div_iff_mul_le hD0).2 (by omega)
  have h5 : b < (D + 1) * P := by rw [hb, Nat.add_mul]; omega
  have h6 : T * P ≤ W := by rw [hW]; exact Nat.le_add_right _ _
  have h7 : 1000000000 * b ≤ 1000000000 * (D + 1) * P := by rw [Nat.mul_assoc]; exact Nat.mul_le_mul_left _ (Nat.le_of_lt h5)
  have h8 : T < 1000000000 * (D + 1) := Nat.lt_of_mul_lt_mul_right (a := P) (by omega)
  have h9 : t ≤ 1000000000 := by
    have : t < 1000000001 := by rw [ht]; exact (Nat.div_lt_iff_lt_mul hD0).2 (by omega)
    omega
  refine ⟨hqt, ?_, h9⟩
  rcases Nat.eq_zero_or_pos t with h | h
  · omega
  · obtain ⟨r, rfl⟩ : ∃ r, t = r + 1 := ⟨t - 1, by omega⟩
    have h10 : r * b ≤ W := by
      have e1 : r * b ≤ r * ((D + 1) * P) := Nat.mul_le_mul_left _ (Nat.le_of_lt h5)
      have e2 : r * ((D + 1) * P) = (r * D + r) * P := by rw [← Nat.mul_assoc, Nat.mul_add, Nat.mul_one]
      have e3 : r * D + r ≤ T := by rw [Nat.add_mul] at h2; omega
      have e4 := Nat.mul_le_mul_right P e3
      omega
    have : r ≤ q := by rw [hq]; exact (Nat.le_div_iff_mul_le hb0).2 h10
    omega
/-- The last two limbs, the last three limbs. -/
theorem val_top2 {l : List Nat} {k : Nat} (h : l.length = k + 2) : val l = (l.getD (k + 1) 0 * 1000000000 + l.getD k 0) * bas k + val (l.take k) := by
  have h1 := val_take_succ l (k := k + 1) (by omega)
  have h2 := val_take_succ l (k := k) (by omega)
  rw [List.take_of_length_le (by omega)] at h1
  have b1 : bas (k + 1) = 1000000000 * bas k := rfl
  rw [h1, h2, b1]
  generalize l.getD (k + 1) 0 = y
  generalize l.getD k 0 = z
  generalize bas k = p
  have e2 : 1000000000 * p * y = 1000000000 * (p * y) := Nat.mul_assoc _ _ _
  have e3 : (y * 1000000000 + z) * p = 1000000000 * (p * y) + p * z := by
    rw [Nat.add_mul, Nat.mul_comm z p, Nat.mul_comm p y]
    have f2 : y * 1000000000 * p = 1000000000 * (y * p) := by rw [Nat.mul_comm y, Nat.mul_assoc]
    omega
  rw [e2, e3]
  omega
theorem val_top3 {l : List Nat} {k : Nat} (h : l.length = k + 3) : val l = ((l.getD (k + 2) 0 * 1000000000 + l.getD (k + 1) 0) * 1000000000 + l.getD k 0) * bas k + val (l.take k) := by
  have h1 := val_take_succ l (k := k + 2) (by omega)
  have h2 := val_take_succ l (k := k + 1) (by omega)
  have h3 := val_take_succ l (k := k) (by omega)
  rw [List.take_of_length_le (by omega)] at h1
  have b1 : bas (k + 1) = 1000000000 * bas k := rfl
  have b2 : bas (k + 2) = 1000000000 * (1000000000 * bas k) := rfl
  rw [h1, h2, h3, b2, b1]
  generalize l.getD (k + 2) 0 = x
  generalize l.getD (k + 1) 0 = y
  generalize l.getD k 0 = z
  generalize bas k = p
  have e1 : 1000000000 * (1000000000 * p) * x = 1000000000000000000 * (p * x) := by rw [← Nat.mul_assoc, Nat.mul_assoc]
  have e2 : 1000000000 * p * y = 1000000000 * (p * y) := Nat.mul_assoc _ _ _
  have e3 : ((x * 1000000000 + y) * 1000000000 + z) * p = 1000000000000000000 * (p * x) + 1000000000 * (p * y) + p * z := by
    rw [Nat.add_mul, Nat.add_mul, Nat.add_mul, Nat.mul_comm z p, Nat.mul_comm p x, Nat.mul_comm p y]
    have f1 : x * 1000000000 * 1000000000 * p = 1000000000000000000 * (x * p) := by rw [Nat.mul_assoc x, Nat.mul_comm x, Nat.mul_assoc]
    have f2 : y * 1000000000 * p = 1000000000 * (y * p) := by rw [Nat.mul_comm y, Nat.mul_assoc]
    omega
  rw [e1, e2, e3]
  omega
/-- One round of a subtraction of q times b, in place. -/
theorem take_step {L W0 b : List Nat} {k c d c' q : Nat} (hk : k < L.length) (hv : val (L.take k) + q * val (b.take k) = val (W0.take k) + bas k * c) (hd : d + q * b.getD k 0 + c = W0.getD k 0 + 1000000000 * c') :
    val ((L.set k d).take (k + 1)) + q * val (b.take (k + 1)) = val (W0.take (k + 1)) + bas (k + 1) * c' := by
  rw [val_take_set L hk, val_take_step b, val_take_step W0, bas_succ, Nat.mul_add q]
  have e1 : bas k * d + bas k * (q * b.getD k 0) + bas k * c = bas k * W0.getD k 0 + 1000000000 * bas k * c' := by
    rw [← Nat.mul_add, ← Nat.mul_add, hd, Nat.mul_add, ← Nat.mul_assoc, Nat.mul_comm (bas k) 1000000000]
  have e2 : q * (bas k * b.getD k 0) = bas k * (q * b.getD k 0) := by rw [← Nat.mul_assoc, Nat.mul_comm q, Nat.mul_assoc]
  omega
/-- The guess, the subtraction and what is put back lead to the quotient's limb and the remainder. -/
theorem guess_end {W b g B L1 L2 c : Nat} {neg : Bool} (hb : b < B) (hb0 : 0 < b) (hg1 : W / b ≤ g) (hg2 : g ≤ W / b + 1) (h1 : L1 + g * b = W + B * (if neg then 1 else 0)) (hL1 : L1 < B)
    (h2 : neg = true → L2 + B * c = L1 + b) (hL2 : L2 < B) (h3 : neg = false → L2 = L1) : (if neg then g - 1 else g) = W / b ∧ L2 = W % b := by
  obtain ⟨q, hq⟩ : ∃ q, q = W / b := ⟨_, rfl⟩
  have hW : W = q * b + W % b := by rw [hq, Nat.mul_comm]; exact (Nat.div_add_mod W b).symm
  have hr := Nat.mod_lt W hb0
  rw [← hq] at hg1 hg2 ⊢
  cases neg with
  | false =>
    simp at h1 h3 ⊢
    have hgq : g = q := by
      rcases Nat.lt_or_ge q g with h | h
      · obtain rfl : g = q + 1 := by omega
        rw [Nat.add_mul, Nat.one_mul] at h1
        omega
      · omega
    subst hgq
    exact ⟨rfl, by omega⟩
  | true =>
    simp at h1 h2 ⊢
    have hgq : g = q + 1 := by
      rcases Nat.lt_or_ge q g with h | h
      · omega
      · obtain rfl : g = q := by omega
        omega
    subst hgq
    rw [Nat.add_mul, Nat.one_mul] at h1
    refine ⟨rfl, ?_⟩
    have hc : c = 1 := by
      rcases Nat.lt_trichotomy c 1 with h | h | h
      · obtain rfl : c = 0 := by omega
        omega
      · exact h
      · have : B * 2 ≤ B * c := Nat.mul_le_mul_left _ h
        omega
    subst hc
    omega
theorem drop_set_add (L : List Nat) (i k d : Nat) : (L.set (i + k) d).drop i = (L.drop i).set k d := by
  rw [List.drop_set]
  rw [if_neg (by omega)]
  congr 1
  omega
theorem getD_drop (L : List Nat) (i k : Nat) : (L.drop i).getD k 0 = L.getD (i + k) 0 := by simp [List.getD]
theorem dig_drop {l : List Nat} (h : Dig l) (k : Nat) : Dig (l.drop k) := fun x hx => h x (List.mem_of_mem_drop hx)
theorem val_drop_add (l : List Nat) (i k : Nat) : val (l.drop i) = val ((l.drop i).take k) + bas (min k (l.length - i)) * val (l.drop (i + k)) := by
  have h := val_append ((l.drop i).take k) ((l.drop i).drop k)
  rw [List.take_append_drop, List.drop_drop] at h
  rw [h, List.length_take, List.length_drop]
end Go.Proofs.YtldifgfpecicnaaGreatDoor
/- Plain numbers: one round of the long division, on the whole row. No program is imported. -/
namespace Go.Proofs.YtldifgfpecicnaaGreatDoor

theorem drop_same {L L' : List Nat} {p : Nat} (hl : L'.length = L.length) (h : ∀ j, p ≤ j → L'.getD j 0 = L.getD j 0) : L'.drop p = L.drop p := by
  apply List.ext_getElem?
  intro j
  rw [List.getElem?_drop, List.getElem?_drop]
  have h1 := h (p + j) (by omega)
  by_cases hj : p + j < L.length
  · rw [List.getElem?_eq_getElem hj, List.getElem?_eq_getElem (by omega)]
    simp only [List.getD, List.getElem?_eq_getElem hj, List.getElem?_eq_getElem (show p + j < L'.length by omega), Option.getD_some] at h1
    rw [h1]
  · rw [List.getElem?_eq_none (by omega), List.getElem?_eq_none (by omega)]
theorem long_round {R R0 : List Nat} {i k n b : Nat} (hR : R.length = n + 1) (hi : i + (k + 2) + 1 ≤ n + 1) (dR : Dig R) (hsame : R.getD i 0 = R0.getD i 0) (hr : val (R.drop (i + 1)) < b) (hb : b < bas (k + 2)) :
    val ((R.drop i).take (k + 3)) = R0.getD i 0 + 1000000000 * val (R.drop (i + 1)) ∧ val (R.drop (i + (k + 3))) = 0 ∧ val ((R.drop i).take (k + 3)) < 1000000000 * b := by
  have h1 := val_drop_add R (i + 1) (k + 2)
  rw [Nat.min_eq_left (by omega), show i + 1 + (k + 2) = i + (k + 3) by omega] at h1
  have h0 : val (R.drop (i + (k + 3))) = 0 := by
    rcases Nat.eq_zero_or_pos (val (R.drop (i + (k + 3)))) with h | h
    · exact h
    · have : bas (k + 2) * 1 ≤ bas (k + 2) * val (R.drop (i + (k + 3))) := Nat.mul_le_mul_left _ h
      omega
  have h2 := val_drop_add R i (k + 3)
  rw [h0, Nat.mul_zero, Nat.add_zero] at h2
  have h3 := val_drop_step R (k := i) (by omega)
  rw [hsame] at h3
  have hx := dig_getD dR i
  rw [hsame] at hx
  refine ⟨by omega, h0, ?_⟩
  rw [← h2, h3]
  omega
theorem long_next {R R' : List Nat} {i k n x : Nat} (hR : R.length = n + 1) (hR' : R'.length = n + 1) (h0 : val (R.drop (i + (k + 3))) = 0) (hsame : ∀ j, (j < i ∨ i + (k + 2) < j) → R'.getD j 0 = R.getD j 0) (hv : val ((R'.drop i).take (k + 3)) = x) : val (R'.drop i) = x := by
  have h1 := val_drop_add R' i (k + 3)
  rw [drop_same (L := R) (L' := R') (p := i + (k + 3)) (by omega) (fun j hj => hsame j (.inr (by omega))), h0, Nat.mul_zero, Nat.add_zero] at h1
  rw [h1, hv]
/-- The factor is small enough. -/
theorem factor_math {tp f : Nat} (htp : tp < 1000000000) (hf : f = 1000000000 / (tp + 1)) : 1 ≤ f ∧ f ≤ 1000000000 ∧ (tp + 1) * f ≤ 1000000000 := by
  have h1 : f * (tp + 1) ≤ 1000000000 := by rw [hf]; exact Nat.div_mul_le_self _ _
  refine ⟨?_, ?_, by rw [Nat.mul_comm]; exact h1⟩
  · rw [hf]; exact (Nat.le_div_iff_mul_le (by omega)).2 (by omega)
  · rw [hf]; exact Nat.div_le_self _ _
theorem factor_fits {b k tp lo f : Nat} (hb : b = lo + bas (k + 1) * tp) (hlo : lo < bas (k + 1)) (hf : (tp + 1) * f ≤ 1000000000) (hf1 : 1 ≤ f) : b * f < bas (k + 2) := by
  have h1 : b < bas (k + 1) * (tp + 1) := by rw [hb, Nat.mul_add]; omega
  have h2 : b * f < bas (k + 1) * (tp + 1) * f := Nat.mul_lt_mul_of_pos_right h1 hf1
  have h3 : bas (k + 1) * ((tp + 1) * f) ≤ bas (k + 1) * 1000000000 := Nat.mul_le_mul_left _ hf
  have h4 : bas (k + 2) = bas (k + 1) * 1000000000 := Nat.mul_comm _ _
  rw [Nat.mul_assoc] at h2
  omega
theorem long_end {a b f Q R : Nat} (hf : 0 < f) (hb : 0 < b) (h : a * f = Q * (b * f) + R) (hR : R < b * f) : Q = a / b ∧ R / f = a % b := by
  have hbf : 0 < b * f := Nat.mul_pos hb hf
  have h1 : a * f / (b * f) = Q := by
    rw [h, Nat.mul_comm Q, Nat.mul_add_div hbf, Nat.div_eq_of_lt hR]; rfl
  have h2 : a * f % (b * f) = R := by
    rw [h, Nat.mul_comm Q, Nat.mul_add_mod, Nat.mod_eq_of_lt hR]
  rw [Nat.mul_div_mul_right _ _ hf] at h1
  rw [Nat.mul_mod_mul_right] at h2
  exact ⟨h1.symm, by rw [← h2, Nat.mul_div_cancel _ hf]⟩
theorem long_start {a f b n k : Nat} {R0 : List Nat} (hv : val R0 = a * f) (hl : R0.length = n + 1) (ha : a < bas n) (hb : bas (k + 1) ≤ b) (hk : k + 2 ≤ n) (hf : 0 < f) : val (R0.drop (n - (k + 2) + 1)) < b * f := by
  have h1 := val_append (R0.take (n - (k + 2) + 1)) (R0.drop (n - (k + 2) + 1))
  rw [List.take_append_drop, List.length_take, Nat.min_eq_left (by omega), hv] at h1
  have h2 : bas n = bas (k + 1) * bas (n - (k + 2) + 1) := by rw [← bas_add]; congr 1; omega
  have h3 : bas (n - (k + 2) + 1) * val (R0.drop (n - (k + 2) + 1)) < bas (n - (k + 2) + 1) * (bas (k + 1) * f) := by
    have h4 : a * f < bas n * f := Nat.mul_lt_mul_of_pos_right ha hf
    rw [h2, Nat.mul_comm (bas (k + 1)), Nat.mul_assoc] at h4
    omega
  have h5 := Nat.lt_of_mul_lt_mul_left h3
  exact Nat.lt_of_lt_of_le h5 (Nat.mul_le_mul_right _ hb)
theorem top_le {W b k w2 fb lo lo' : Nat} (hW : W = lo + bas (k + 2) * w2) (hb : b = lo' + bas (k + 1) * fb) (hlo' : lo' < bas (k + 1)) (h : W < 1000000000 * b) : w2 ≤ fb := by
  have h1 : 1000000000 * b < bas (k + 2) * (fb + 1) := by
    have e : bas (k + 2) = 1000000000 * bas (k + 1) := rfl
    rw [hb, e, Nat.mul_add, Nat.mul_add, Nat.mul_assoc, Nat.mul_one]; omega
  have h2 : bas (k + 2) * w2 < bas (k + 2) * (fb + 1) := by omega
  have := Nat.lt_of_mul_lt_mul_left h2
  omega
theorem long_keep {R0 Q R R1 : List Nat} {i b W g : Nat} (hW : W = R0.getD i 0 + 1000000000 * val (R.drop (i + 1))) (hv : val (R0.drop (i + 1)) = val (Q.drop (i + 1)) * b + val (R.drop (i + 1))) (hg : g = W / b) (hr : val (R1.drop i) = W % b) (hi : i < R0.length) (hq : i < Q.length) :
    val (R0.drop i) = val ((Q.set i g).drop i) * b + val (R1.drop i) := by
  rw [val_drop_step R0 hi, val_drop_set Q hq, hr]
  have h1 := Nat.div_add_mod W b
  rw [← hg, Nat.mul_comm] at h1
  exact div_keep (r' := W % b) (by omega) (by omega) hv
theorem guess_vals {wl bl : List Nat} {k b : Nat} (hw : wl.length = k + 3) (hl : bl.length = k + 2) (dw : Dig wl) (db : Dig bl) (hb : val bl = b) (hlt : val wl < 1000000000 * b) (hbig : bas (k + 1) ≤ b) :
    1 ≤ bl.getD (k + 1) 0 ∧ wl.getD (k + 2) 0 ≤ bl.getD (k + 1) 0 ∧
      val wl / b ≤ ((wl.getD (k + 2) 0 * 1000000000 + wl.getD (k + 1) 0) * 1000000000 + wl.getD k 0) / (bl.getD (k + 1) 0 * 1000000000 + bl.getD k 0) ∧
      ((wl.getD (k + 2) 0 * 1000000000 + wl.getD (k + 1) 0) * 1000000000 + wl.getD k 0) / (bl.getD (k + 1) 0 * 1000000000 + bl.getD k 0) ≤ val wl / b + 1 ∧
      ((wl.getD (k + 2) 0 * 1000000000 + wl.getD (k + 1) 0) * 1000000000 + wl.getD k 0) / (bl.getD (k + 1) 0 * 1000000000 + bl.getD k 0) ≤ 1000000000 := by
  have h1 := val_take_succ bl (k := k + 1) (by omega)
  rw [List.take_of_length_le (by omega), hb] at h1
  have h2 := val_lt (dig_take db (k + 1))
  rw [List.length_take, Nat.min_eq_left (by omega)] at h2
  have h3 := val_take_succ wl (k := k + 2) (by omega)
  rw [List.take_of_length_le (by omega)] at h3
  have hf1 : 1 ≤ bl.getD (k + 1) 0 := by
    rcases Nat.eq_zero_or_pos (bl.getD (k + 1) 0) with h | h
    · rw [h] at h1; omega
    · exact h
  have h4 := top_le h3 h1 h2 hlt
  have h5 := val_lt (dig_take db k)
  rw [List.length_take, Nat.min_eq_left (by omega)] at h5
  have h6 := val_lt (dig_take dw k)
  rw [List.length_take, Nat.min_eq_left (by omega)] at h6
  have h7 := val_top2 hl
  rw [hb] at h7
  have h8 := val_top3 hw
  exact ⟨hf1, h4, guess_math h8 h6 h7 h5 (by omega) hlt⟩
end Go.Proofs.YtldifgfpecicnaaGreatDoor
/- Plain numbers: fractions in lowest terms are the rational numbers; what the operations of two fractions lead to, too large results included. No program is imported. -/
namespace Go.Proofs.YtldifgfpecicnaaGreatDoor

/-- The rational number p / q. -/
def fr (p q : Int) : Rat := Rat.divInt p q
def nm (r : Rat) : Int := r.num
def dn (r : Rat) : Int := (r.den : Int)

theorem dn_pos (r : Rat) : 0 < dn r := by unfold dn; have := r.den_pos; omega
theorem dn_ne (r : Rat) : dn r ≠ 0 := by have := dn_pos r; omega
theorem fr_self (r : Rat) : fr (nm r) (dn r) = r := Rat.num_divInt_den r
theorem fr_eq {a b c d : Int} (hb : b ≠ 0) (hd : d ≠ 0) : fr a b = fr c d ↔ a * d = c * b := Rat.divInt_eq_divInt_iff hb hd
theorem rat_ext {r s : Rat} (h1 : nm r = nm s) (h2 : dn r = dn s) : r = s := by
  apply Rat.ext
  · exact h1
  · unfold dn at h2; omega

theorem gcd_pos_of {p q : Int} (hq : q ≠ 0) : 0 < Nat.gcd p.natAbs q.natAbs := Nat.gcd_pos_of_pos_right _ (by omega)
theorem tdiv_gcd_left (p q : Int) : (Nat.gcd p.natAbs q.natAbs : Int) ∣ p := Int.natAbs_dvd_natAbs.1 (by rw [Int.natAbs_natCast]; exact Nat.gcd_dvd_left _ _)
theorem tdiv_gcd_right (p q : Int) : (Nat.gcd p.natAbs q.natAbs : Int) ∣ q := Int.natAbs_dvd_natAbs.1 (by rw [Int.natAbs_natCast]; exact Nat.gcd_dvd_right _ _)
theorem igcd (p q : Int) : ((Int.gcd q p : Nat) : Int) = (Nat.gcd p.natAbs q.natAbs : Nat) := by
  unfold Int.gcd; rw [Nat.gcd_comm]

/-- Lowest terms, over a positive denominator. -/
theorem low_pos {p q : Int} (hq : 0 < q) (g : Int) (hg : g = (Nat.gcd p.natAbs q.natAbs : Nat)) : p.tdiv g = nm (fr p q) ∧ q.tdiv g = dn (fr p q) := by
  have hp0 : 0 < (Nat.gcd p.natAbs q.natAbs : Int) := by have := gcd_pos_of (p := p) (q := q) (by omega); omega
  subst hg
  constructor
  · unfold nm fr
    rw [Rat.num_divInt, igcd, Int.sign_eq_one_of_pos hq, Int.one_mul]
    exact Int.tdiv_eq_ediv_of_dvd (tdiv_gcd_left p q)
  · unfold dn fr
    rw [Rat.den_divInt, if_neg (by omega), Int.tdiv_eq_ediv_of_dvd (tdiv_gcd_right p q)]
    have e : q = (q.natAbs : Int) := by omega
    rw [Int.natCast_ediv, igcd]
    exact congrArg (· / ((Nat.gcd p.natAbs q.natAbs : Nat) : Int)) e
/-- Lowest terms, over a negative denominator: the divisor is negative. -/
theorem low_neg {p q : Int} (hq : q < 0) (g : Int) (hg : g = -(Nat.gcd p.natAbs q.natAbs : Nat)) : p.tdiv g = nm (fr p q) ∧ q.tdiv g = dn (fr p q) := by
  have e : fr p q = fr (-p) (-q) := (Rat.neg_divInt_neg p q).symm
  have h := low_pos (p := -p) (q := -q) (by omega) _ rfl
  rw [e, ← h.1, ← h.2, hg, Int.natAbs_neg, Int.natAbs_neg, Int.tdiv_neg, Int.tdiv_neg, Int.neg_tdiv, Int.neg_tdiv]
  exact ⟨rfl, rfl⟩

theorem fr_num_le {p q : Int} (hq : q ≠ 0) : (nm (fr p q)).natAbs ≤ p.natAbs := by
  rcases Int.lt_or_gt_of_ne hq with h | h
  · rw [← (low_neg h _ rfl).1, Int.natAbs_tdiv]; exact Nat.div_le_self _ _
  · rw [← (low_pos h _ rfl).1, Int.natAbs_tdiv]; exact Nat.div_le_self _ _
theorem fr_den_le {p q : Int} (hq : q ≠ 0) : (dn (fr p q)).natAbs ≤ q.natAbs := by
  rcases Int.lt_or_gt_of_ne hq with h | h
  · rw [← (low_neg h _ rfl).2, Int.natAbs_tdiv]; exact Nat.div_le_self _ _
  · rw [← (low_pos h _ rfl).2, Int.natAbs_tdiv]; exact Nat.div_le_self _ _

/-- Both parts are of at most 300 digits. -/
def Fits (r : Rat) : Prop := (nm r).natAbs < top300 ∧ (dn r).natAbs < top300
theorem Fits.fr {p q : Int} (hq : q ≠ 0) (hp : p.natAbs < top300) (hq' : q.natAbs < top300) : Fits (fr p q) := ⟨Nat.lt_of_le_of_lt (fr_num_le hq) hp, Nat.lt_of_le_of_lt (fr_den_le hq) hq'⟩

/-- A pair of integers is a fraction in lowest terms. -/
def lowB (p q : Int) : Bool := decide (0 < q) && decide (Nat.gcd p.natAbs q.natAbs = 1)
theorem low_rat (r : Rat) : lowB (nm r) (dn r) = true := by
  unfold lowB
  have h1 := dn_pos r
  have h2 := r.reduced
  have h3 : Nat.gcd (nm r).natAbs (dn r).natAbs = 1 := by unfold nm dn; rw [Int.natAbs_natCast]; exact h2
  simp [h1, h3]
theorem low_of {p q : Int} (h : lowB p q = true) : nm (fr p q) = p ∧ dn (fr p q) = q := by
  unfold lowB at h
  simp only [Bool.and_eq_true, decide_eq_true_eq] at h
  have h1 := low_pos h.1 _ rfl (p := p)
  rw [h.2] at h1
  rw [← h1.1, ← h1.2]
  exact ⟨Int.tdiv_one p, Int.tdiv_one q⟩

/-- What a function of fractions returns: an error, and the fields. -/
structure Res where
  e : Int
  p : Int
  q : Int
def okR (r : Rat) : Res := ⟨0, nm r, dn r⟩
def noR (k : Int) : Res := ⟨k, 0, 0⟩
def okB (z : Int) : Bool := decide (z.natAbs < top300)
/-- p / q, if both are of at most 300 digits. -/
def quoR (p q : Int) : Res := if okB p && okB q then okR (fr p q) else noR 3
def mulR (a b : Rat) : Res := quoR (nm a * nm b) (dn a * dn b)
def divR (a b : Rat) : Res := if nm b = 0 then noR 8 else quoR (nm a * dn b) (dn a * nm b)
def comR (a b : Rat) (z : Int) : Res := if okB (nm a * dn b) && okB (nm b * dn a) && okB z && okB (dn a * dn b) then okR (fr z (dn a * dn b)) else noR 3
def addR (a b : Rat) : Res := comR a b (nm a * dn b + nm b * dn a)
def subR (a b : Rat) : Res := comR a b (nm a * dn b - nm b * dn a)
def crossB (a b : Rat) : Bool := okB (nm a * dn b) && okB (nm b * dn a)
end Go.Proofs.YtldifgfpecicnaaGreatDoor
/- Plain numbers: the laws of fractions of small parts. No program is imported. -/
namespace Go.Proofs.YtldifgfpecicnaaGreatDoor

theorem fr_add (a b : Rat) : fr (nm a * dn b + nm b * dn a) (dn a * dn b) = a + b := by
  unfold fr nm dn
  rw [Rat.add_def', ← Int.natCast_mul, Rat.divInt_ofNat]
theorem fr_sub (a b : Rat) : fr (nm a * dn b - nm b * dn a) (dn a * dn b) = a - b := by
  unfold fr nm dn
  rw [Rat.sub_def', ← Int.natCast_mul, Rat.divInt_ofNat]
theorem fr_mul (a b : Rat) : fr (nm a * nm b) (dn a * dn b) = a * b := by
  unfold fr nm dn
  rw [Rat.mul_def', ← Int.natCast_mul, Rat.divInt_ofNat]
theorem fr_div (a b : Rat) : fr (nm a * dn b) (dn a * nm b) = a / b := by
  have h : a * b⁻¹ = (Rat.divInt a.num a.den) * (Rat.divInt b.den b.num) := by rw [Rat.num_divInt_den, Rat.inv_def]
  rw [Rat.div_def, h, Rat.divInt_mul_divInt]
  rfl
theorem nm_zero {r : Rat} (h : nm r = 0) : r = 0 := Rat.num_eq_zero.1 h
theorem nm_ne {r : Rat} (h : nm r ≠ 0) : r ≠ 0 := fun e => h (by rw [e]; rfl)

theorem okB_top {z : Int} (h : z.natAbs < top300) : okB z = true := by unfold okB; simpa using h
theorem okB_lt {z : Int} (h : okB z = true) : z.natAbs < top300 := by unfold okB at h; simpa using h
theorem word_top2 {k : Nat} (h : k ≤ 9223372036854775808) : k < top300 := by
  have h1 : bas 3 ≤ bas 33 := bas_mono (by omega)
  have h2 : bas 3 = 1000000000000000000000000000 := rfl
  unfold top300; omega
theorem okB_word {z : Int} (h : z.natAbs ≤ 9223372036854775808) : okB z = true := okB_top (word_top2 h)

/-- Parts of at most N and D. -/
def Sm (r : Rat) (N D : Nat) : Prop := (nm r).natAbs ≤ N ∧ (dn r).natAbs ≤ D
theorem Sm.mono {r : Rat} {N D N' D' : Nat} (h : Sm r N D) (h1 : N ≤ N') (h2 : D ≤ D') : Sm r N' D' := ⟨Nat.le_trans h.1 h1, Nat.le_trans h.2 h2⟩
theorem Sm.fr {p q : Int} {N D : Nat} (hq : q ≠ 0) (h1 : p.natAbs ≤ N) (h2 : q.natAbs ≤ D) : Sm (fr p q) N D := ⟨Nat.le_trans (fr_num_le hq) h1, Nat.le_trans (fr_den_le hq) h2⟩
theorem mul_bd {x y : Int} {N D : Nat} (h1 : x.natAbs ≤ N) (h2 : y.natAbs ≤ D) : (x * y).natAbs ≤ N * D := by
  rw [Int.natAbs_mul]; exact Nat.mul_le_mul h1 h2
theorem dn_mul_ne (a b : Rat) : dn a * dn b ≠ 0 := Int.mul_ne_zero (dn_ne a) (dn_ne b)
theorem add_sm {a b : Rat} {N D N' D' : Nat} (h : Sm a N D) (h' : Sm b N' D') : Sm (a + b) (N * D' + N' * D) (D * D') := by
  rw [← fr_add]
  exact Sm.fr (dn_mul_ne a b) (Nat.le_trans (Int.natAbs_add_le _ _) (Nat.add_le_add (mul_bd h.1 h'.2) (mul_bd h'.1 h.2))) (mul_bd h.2 h'.2)
theorem mul_sm {a b : Rat} {N D N' D' : Nat} (h : Sm a N D) (h' : Sm b N' D') : Sm (a * b) (N * N') (D * D') := by
  rw [← fr_mul]
  exact Sm.fr (dn_mul_ne a b) (mul_bd h.1 h'.1) (mul_bd h.2 h'.2)
theorem comR_sm {a b : Rat} {N D N' D' : Nat} {z : Int} (h : Sm a N D) (h' : Sm b N' D') (hz : z.natAbs ≤ N * D' + N' * D) (h1 : N * D' + N' * D ≤ 9223372036854775808) (h2 : D * D' ≤ 9223372036854775808) :
    comR a b z = okR (fr z (dn a * dn b)) := by
  have e1 := okB_word (Nat.le_trans (mul_bd h.1 h'.2) (by omega : N * D' ≤ 9223372036854775808))
  have e2 := okB_word (Nat.le_trans (mul_bd h'.1 h.2) (by omega : N' * D ≤ 9223372036854775808))
  have e3 := okB_word (Nat.le_trans hz h1)
  have e4 := okB_word (Nat.le_trans (mul_bd h.2 h'.2) h2)
  unfold comR
  rw [e1, e2, e3, e4]; rfl
theorem addR_sm {a b : Rat} {N D N' D' : Nat} (h : Sm a N D) (h' : Sm b N' D') (h1 : N * D' + N' * D ≤ 9223372036854775808) (h2 : D * D' ≤ 9223372036854775808) : addR a b = okR (a + b) := by
  unfold addR
  rw [comR_sm h h' (Nat.le_trans (Int.natAbs_add_le _ _) (Nat.add_le_add (mul_bd h.1 h'.2) (mul_bd h'.1 h.2))) h1 h2, fr_add]
theorem subR_sm {a b : Rat} {N D N' D' : Nat} (h : Sm a N D) (h' : Sm b N' D') (h1 : N * D' + N' * D ≤ 9223372036854775808) (h2 : D * D' ≤ 9223372036854775808) : subR a b = okR (a - b) := by
  unfold subR
  rw [comR_sm h h' (Nat.le_trans (Int.natAbs_sub_le _ _) (Nat.add_le_add (mul_bd h.1 h'.2) (mul_bd h'.1 h.2))) h1 h2, fr_sub]
theorem mulR_sm {a b : Rat} {N D N' D' : Nat} (h : Sm a N D) (h' : Sm b N' D') (h1 : N * N' ≤ 9223372036854775808) (h2 : D * D' ≤ 9223372036854775808) : mulR a b = okR (a * b) := by
  unfold mulR quoR
  rw [okB_word (Nat.le_trans (mul_bd h.1 h'.1) h1), okB_word (Nat.le_trans (mul_bd h.2 h'.2) h2), fr_mul]; rfl
theorem divR_sm {a b : Rat} {N D N' D' : Nat} (h : Sm a N D) (h' : Sm b N' D') (hb : nm b ≠ 0) (h1 : N * D' ≤ 9223372036854775808) (h2 : D * N' ≤ 9223372036854775808) : divR a b = okR (a / b) := by
  unfold divR quoR
  rw [if_neg hb, okB_word (Nat.le_trans (mul_bd h.1 h'.2) h1), okB_word (Nat.le_trans (mul_bd h.2 h'.1) h2), fr_div]; rfl
theorem crossB_sm {a b : Rat} {N D N' D' : Nat} (h : Sm a N D) (h' : Sm b N' D') (h1 : N * D' ≤ 9223372036854775808) (h2 : N' * D ≤ 9223372036854775808) : crossB a b = true := by
  unfold crossB
  rw [okB_word (Nat.le_trans (mul_bd h.1 h'.2) h1), okB_word (Nat.le_trans (mul_bd h'.1 h.2) h2)]; rfl
theorem add_swap (a b : Rat) : a + b = b + a := Rat.add_comm a b
theorem add_back (a b : Rat) : a + b - b = a := Rat.add_sub_cancel
theorem mul_over (a b c : Rat) : a * c + b * c = (a + b) * c := (Rat.add_mul a b c).symm
theorem mul_back (a c : Rat) (h : nm c ≠ 0) : a * c / c = a := Rat.mul_div_cancel (nm_ne h)

/-- The sign of a difference is the order of the cross products. -/
theorem sub_sign (a b : Rat) : (nm (a - b)).sign = (nm a * dn b - nm b * dn a).sign := by
  rw [← fr_sub]
  have hpos : 0 < dn a * dn b := Int.mul_pos (dn_pos a) (dn_pos b)
  obtain ⟨z, hz⟩ : ∃ z, z = nm a * dn b - nm b * dn a := ⟨_, rfl⟩
  obtain ⟨q, hq⟩ : ∃ q, q = dn a * dn b := ⟨_, rfl⟩
  rw [← hz, ← hq]
  rw [← hq] at hpos
  have h1 : nm (fr z q) * q = z * dn (fr z q) := by
    have := (fr_eq (a := nm (fr z q)) (b := dn (fr z q)) (c := z) (d := q) (dn_ne _) (by omega)).1 (fr_self _)
    exact this
  have h2 : (nm (fr z q) * q).sign = (z * dn (fr z q)).sign := by rw [h1]
  rw [Int.sign_mul, Int.sign_mul, Int.sign_eq_one_of_pos hpos, Int.sign_eq_one_of_pos (dn_pos _), Int.mul_one, Int.mul_one] at h2
  exact h2
theorem cross_le (a b : Rat) : a ≤ b ↔ nm a * dn b ≤ nm b * dn a := Rat.le_iff a b
theorem cross_lt (a b : Rat) : a < b ↔ nm a * dn b < nm b * dn a := Rat.lt_iff a b
theorem lt_of_le_lt {a b c : Rat} (h1 : a ≤ b) (h2 : b < c) : a < c := by
  refine Rat.not_le.1 fun h => ?_
  exact Rat.not_le.2 h2 (Rat.le_trans h h1)
theorem lt_of_lt_le {a b c : Rat} (h1 : a < b) (h2 : b ≤ c) : a < c := by
  refine Rat.not_le.1 fun h => ?_
  exact Rat.not_le.2 h1 (Rat.le_trans h2 h)
theorem cross_trans (a b c : Rat) (h1 : nm a * dn b ≤ nm b * dn a) (h2 : nm b * dn c ≤ nm c * dn b) : nm a * dn c ≤ nm c * dn a := (cross_le a c).1 (Rat.le_trans ((cross_le a b).2 h1) ((cross_le b c).2 h2))
/-- If the ends are equal, so is what lies between. -/
theorem cross_same (a b c : Rat) (h1 : nm a * dn b ≤ nm b * dn a) (h2 : nm b * dn c ≤ nm c * dn b) (h : ¬ nm a * dn c < nm c * dn a) : nm a * dn b = nm b * dn a ∧ nm b * dn c = nm c * dn b := by
  have k1 : ¬ a < c := fun k => h ((cross_lt a c).1 k)
  constructor
  · refine Int.le_antisymm h1 (Int.not_lt.1 fun k => k1 ?_)
    exact lt_of_lt_le ((cross_lt a b).2 k) ((cross_le b c).2 h2)
  · refine Int.le_antisymm h2 (Int.not_lt.1 fun k => k1 ?_)
    exact lt_of_le_lt ((cross_le a b).2 h1) ((cross_lt b c).2 k)
end Go.Proofs.YtldifgfpecicnaaGreatDoor
