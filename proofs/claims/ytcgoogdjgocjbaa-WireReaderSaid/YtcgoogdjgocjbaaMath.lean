/- Plain numbers: varints, what reads them, and the codes of strings and lists. -/
import Derived.WalkKit
import Derived.Lib.Hide
import Derived.Lib.Zigzag
import Derived.Lib.VarintBits
namespace Go.Proofs.Ytcgoogdjgocjbaa

/-- The bytes of a varint. -/
def vi (n : Nat) : List Nat := if h : n < 128 then [n] else (128 + n % 128) :: vi (n / 128)
termination_by n
decreasing_by omega
theorem vi_small {n : Nat} (h : n < 128) : vi n = [n] := by rw [vi, dif_pos h]
theorem vi_big {n : Nat} (h : 128 ≤ n) : vi n = (128 + n % 128) :: vi (n / 128) := by rw [vi, dif_neg (by omega)]
theorem vi_byte (n : Nat) : ∀ x ∈ vi n, x < 256 := by
  induction n using Nat.strongRecOn with
  | _ n ih =>
    intro x hx
    by_cases h : n < 128
    · rw [vi_small h] at hx; simp at hx; omega
    · rw [vi_big (by omega)] at hx
      simp only [List.mem_cons] at hx
      rcases hx with rfl | hx
      · omega
      · exact ih (n / 128) (by omega) x hx
theorem vi_pos (n : Nat) : 0 < (vi n).length := by
  by_cases h : n < 128
  · rw [vi_small h]; simp
  · rw [vi_big (by omega)]; simp
theorem vi_len : ∀ (k n : Nat), n < 128 ^ k → 0 < k → (vi n).length ≤ k := by
  intro k
  induction k with
  | zero => intro n _ h; omega
  | succ k ih =>
    intro n hn _
    by_cases h : n < 128
    · rw [vi_small h]; simp
    · rw [vi_big (by omega)]
      rw [Nat.pow_succ] at hn
      have hk : 0 < k := by
        rcases Nat.eq_zero_or_pos k with h0 | h0
        · subst h0; simp at hn; omega
        · exact h0
      have := ih (n / 128) (by omega) hk
      simp only [List.length_cons]; omega
theorem vi_len10 {n : Nat} (h : n < 18446744073709551616) : (vi n).length ≤ 10 := vi_len 10 n (Nat.lt_of_lt_of_le h (by decide)) (by decide)

/-- What reads a varint returns, from byte i on, with n so far: the number, the number of bytes, the error. -/
def rd : List Nat → Nat → Nat → Nat × Nat × Nat
  | [], i, _ => if i < 10 then (0, 0, 9) else (0, 0, 7)
  | b :: l, i, n => if i = 10 then (0, 0, 7) else if 128 ≤ b then rd l (i + 1) (n + (b - 128) * 128 ^ i)
    else if i = 9 ∧ 1 < b then (0, 0, 7) else if b = 0 ∧ 0 < i then (0, 0, 2) else (n + b * 128 ^ i, i + 1, 0)
theorem rd_ten (l : List Nat) (n : Nat) : rd l 10 n = (0, 0, 7) := by cases l <;> simp [rd]
theorem pow9 : (128 : Nat) ^ 9 = 9223372036854775808 := by decide
/-- What is returned: an error, or a number of 64 bits and at least one byte. -/
theorem rd_out : ∀ (l : List Nat) (i n : Nat), (∀ x ∈ l, x < 256) → i ≤ 10 → (i ≤ 9 → n < 128 ^ i) →
    ((rd l i n).2.2 = 0 → (rd l i n).1 < 18446744073709551616 ∧ i < (rd l i n).2.1 ∧ (rd l i n).2.1 ≤ i + l.length ∧ (rd l i n).2.1 ≤ 10) ∧
    ((rd l i n).2.2 ≠ 0 → (rd l i n).1 = 0 ∧ (rd l i n).2.1 = 0 ∧ (rd l i n).2.2 < 10) := by
  intro l
  induction l with
  | nil => intro i n _ hi _; unfold rd; split <;> simp
  | cons b l ih =>
    intro i n hB hi hn
    have hb2 : b < 256 := hB b (List.mem_cons_self ..)
    unfold rd
    split
    · simp
    · rename_i h10
      split
      · rename_i hb
        have h2 : i + 1 ≤ 9 → (i : Nat) ≤ 9 := by omega
        by_cases h9 : i = 9
        · subst h9; rw [rd_ten]; simp
        · have hstep : n + (b - 128) * 128 ^ i < 128 ^ (i + 1) := by
            have h3 := hn (by omega)
            have h4 : (b - 128) * 128 ^ i ≤ 127 * 128 ^ i := Nat.mul_le_mul_right _ (by omega)
            rw [Nat.pow_succ]; omega
          have := ih (i + 1) (n + (b - 128) * 128 ^ i) (fun x hx => hB x (List.mem_cons_of_mem _ hx)) (by omega) (fun _ => hstep)
          refine ⟨fun h => ?_, this.2⟩
          have h5 := this.1 h
          simp only [List.length_cons]
          omega
      · rename_i hb
        split
        · simp
        · rename_i h9
          split
          · simp
          · rename_i h0
            refine ⟨fun _ => ?_, fun h => absurd rfl h⟩
            simp only [List.length_cons]
            refine ⟨?_, by omega, by omega, by omega⟩
            have h3 := hn (by omega)
            by_cases hi9 : i = 9
            · subst hi9
              have hb1 : b ≤ 1 := by omega
              have h4 : b * 128 ^ 9 ≤ 1 * 128 ^ 9 := Nat.mul_le_mul_right _ hb1
              rw [pow9] at h3 h4
              rw [pow9]
              omega
            · have h4 : b * 128 ^ i ≤ 127 * 128 ^ i := Nat.mul_le_mul_right _ (by omega)
              have h5 : 128 ^ (i + 1) ≤ 128 ^ 9 := Nat.pow_le_pow_right (by decide) (by omega)
              rw [Nat.pow_succ, pow9] at h5
              omega

theorem drop_step {l : List Nat} {k : Nat} (h : k < l.length) : l.drop k = l.getD k 0 :: l.drop (k + 1) := by
  rw [List.drop_eq_getElem_cons h]; simp [List.getD, h]
theorem rd_go {l : List Nat} {k n b : Nat} (hk : k < l.length) (h10 : k < 10) (hb : b = l.getD k 0) (h : 128 ≤ b) : rd (l.drop k) k n = rd (l.drop (k + 1)) (k + 1) (n + (b - 128) * 128 ^ k) := by
  subst hb; rw [drop_step hk, rd, if_neg (by omega), if_pos h]
theorem rd_range {l : List Nat} {n b : Nat} (hk : 9 < l.length) (hb : b = l.getD 9 0) (h : b < 128) (h1 : 1 < b) : rd (l.drop 9) 9 n = (0, 0, 7) := by
  subst hb; rw [drop_step hk, rd, if_neg (by omega), if_neg (by omega), if_pos ⟨rfl, h1⟩]
theorem rd_syntax {l : List Nat} {k n : Nat} (hk : k < l.length) (h10 : k < 10) (hb : l.getD k 0 = 0) (h0 : 0 < k) : rd (l.drop k) k n = (0, 0, 2) := by
  rw [drop_step hk, rd, hb, if_neg (by omega), if_neg (by omega), if_neg (by omega), if_pos ⟨rfl, h0⟩]
theorem rd_end {l : List Nat} {k n b : Nat} (hk : k < l.length) (h10 : k < 10) (hb : b = l.getD k 0) (h : b < 128) (h9 : ¬ (k = 9 ∧ 1 < b)) (h0 : ¬ (b = 0 ∧ 0 < k)) : rd (l.drop k) k n = (n + b * 128 ^ k, k + 1, 0) := by
  subst hb; rw [drop_step hk, rd, if_neg (by omega), if_neg (by omega), if_neg h9, if_neg h0]
theorem rd_short {l : List Nat} {k n : Nat} (hk : k = l.length) (h10 : k < 10) : rd (l.drop k) k n = (0, 0, 9) := by
  rw [List.drop_of_length_le (by omega), rd, if_pos h10]
/-- What is written is read back, whatever follows. -/
theorem rd_vi : ∀ (m : Nat) (r : List Nat) (i n : Nat), m * 128 ^ i < 18446744073709551616 → i ≤ 9 → (0 < i → 0 < m) → rd (vi m ++ r) i n = (n + m * 128 ^ i, i + (vi m).length, 0) := by
  intro m
  induction m using Nat.strongRecOn with
  | _ m ih =>
    intro r i n hm hi h0
    by_cases h : m < 128
    · rw [vi_small h]
      simp only [List.cons_append, List.nil_append, List.length_cons, List.length_nil, rd]
      rw [if_neg (by omega), if_neg (by omega), if_neg, if_neg (by omega)]
      rintro ⟨rfl, h1⟩
      rw [pow9] at hm; omega
    · rw [vi_big (by omega)]
      simp only [List.cons_append, List.length_cons, rd]
      rw [if_neg (by omega), if_pos (by omega)]
      have h1 : m / 128 * 128 ^ (i + 1) + m % 128 * 128 ^ i = m * 128 ^ i := by
        rw [Nat.pow_succ]
        have : m = 128 * (m / 128) + m % 128 := (Nat.div_add_mod m 128).symm
        calc m / 128 * (128 ^ i * 128) + m % 128 * 128 ^ i = (128 * (m / 128) + m % 128) * 128 ^ i := by
              rw [Nat.add_mul]; congr 1; rw [Nat.mul_comm (128 ^ i) 128, ← Nat.mul_assoc, Nat.mul_comm (m / 128) 128]
          _ = m * 128 ^ i := by rw [← this]
      have hi9 : i ≠ 9 := by
        rintro rfl
        rw [pow9] at hm; omega
      have hpos : 0 < m / 128 := by omega
      rw [ih (m / 128) (by omega) r (i + 1) _ (by omega) (by omega) (fun _ => hpos)]
      have e1 : 128 + m % 128 - 128 = m % 128 := by omega
      rw [e1]
      refine Prod.ext ?_ (Prod.ext ?_ rfl)
      · show n + m % 128 * 128 ^ i + m / 128 * 128 ^ (i + 1) = n + m * 128 ^ i
        omega
      · show i + 1 + (vi (m / 128)).length = i + ((vi (m / 128)).length + 1)
        omega

theorem u8_or_top' : ∀ n : Fin 256, bits .or .u8 (n.val : Int) 128 = ((128 + n.val % 128 : Nat) : Int) := by decide +kernel
theorem u8_or_top (k : Nat) : bits .or .u8 ((k : Int) % 256) 128 = ((128 + k % 128 : Nat) : Int) := by
  have h := u8_or_top' ⟨k % 256, by omega⟩
  simp only at h
  rw [show ((k % 256 : Nat) : Int) = (k : Int) % 256 by omega] at h
  rw [h]; omega

/-- What the reader's or makes of the next byte. -/
theorem or_val {n k b : Nat} (hk : k ≤ 9) (hn : n < 128 ^ k) (hb : b < 256) :
    ∃ m : Nat, m < 18446744073709551616 ∧ bits .or .u64 (n : Int) (IntKind.u64.wrap (IntKind.u64.wrap (bits .and .u8 (b : Int) 127) * 2 ^ (7 * k))) = (m : Int) ∧ (k ≤ 8 ∨ b ≤ 1 → m = n + b % 128 * 128 ^ k) := by
  have hp : (2 : Nat) ^ (7 * k) = 128 ^ k := by rw [Nat.pow_mul]
  have hk9 : (128 : Nat) ^ k ≤ 128 ^ 9 := Nat.pow_le_pow_right (by decide) hk
  rw [pow9] at hk9
  have e1 : bits .and .u8 (b : Int) 127 = ((b % 128 : Nat) : Int) := by rw [u8_and127 (b : Int) (by omega) (by omega)]; omega
  have e2 : IntKind.u64.wrap ((b % 128 : Nat) : Int) = ((b % 128 : Nat) : Int) := wraps_u64 _ (by omega) (by omega)
  have e3 : ((b % 128 : Nat) : Int) * 2 ^ (7 * k) = ((b % 128 * 128 ^ k : Nat) : Int) := by rw [← hp]; push_cast; rfl
  have e4 : IntKind.u64.wrap ((b % 128 * 128 ^ k : Nat) : Int) = ((b % 128 * 128 ^ k % 18446744073709551616 : Nat) : Int) := by rw [IntKind.wrap_u64, Int.natCast_emod]; rfl
  rw [e1, e2, e3, e4]
  have hy : b % 128 * 128 ^ k % 18446744073709551616 < 2 ^ 64 := Nat.mod_lt _ (by decide)
  rw [(bits_nat .u64 64 (by decide) wraps_u64 n _ (by omega) hy).2]
  refine ⟨_, Nat.or_lt_two_pow (n := 64) (by omega) hy, rfl, fun h => ?_⟩
  have hlt : b % 128 * 128 ^ k < 18446744073709551616 := by
    rcases h with h | h
    · have h8 : (128 : Nat) ^ k ≤ 128 ^ 8 := Nat.pow_le_pow_right (by decide) h
      have : b % 128 * 128 ^ k ≤ 127 * 128 ^ 8 := Nat.mul_le_mul (by omega) h8
      have h3 : 127 * 128 ^ 8 < 18446744073709551616 := by decide
      omega
    · have : b % 128 * 128 ^ k ≤ 1 * 128 ^ k := Nat.mul_le_mul_right _ (by omega)
      omega
  rw [Nat.mod_eq_of_lt hlt, ← hp, Nat.or_comm, Nat.mul_comm, ← Nat.two_pow_add_eq_or_of_lt (by rw [hp]; exact hn)]
  omega
end Go.Proofs.Ytcgoogdjgocjbaa
