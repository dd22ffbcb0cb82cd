/- Sets as numbers below 65536: their members, how many there are, the set of some numbers, the subsets with k members in order, the order of sets. -/
import Derived.Test.YtfdlmgjjpcdkpaaDoorProg
namespace Go.Proofs.YtfdlmgjjpcdkpaaDoor

/-- The members below m, in ascending order. -/
def mem (m s : Nat) : List Nat := (List.range m).filter fun i => s.testBit i
def cnt (s : Nat) : Nat := (mem 16 s).length
theorem mem_succ (m s : Nat) : mem (m + 1) s = mem m s ++ (if s.testBit m then [m] else []) := by
  unfold mem
  rw [List.range_succ, List.filter_append]
  congr 1
  simp [List.filter_cons]
theorem mem_lt {m s i : Nat} (h : i ∈ mem m s) : i < m := by
  unfold mem at h
  rw [List.mem_filter] at h
  exact List.mem_range.1 h.1
theorem mem_iff {m s i : Nat} : i ∈ mem m s ↔ i < m ∧ s.testBit i = true := by
  unfold mem
  rw [List.mem_filter, List.mem_range]
theorem mem_len (m s : Nat) : (mem m s).length ≤ m := by
  unfold mem
  exact Nat.le_trans (List.length_filter_le _ _) (by simp)
theorem cnt_le (s : Nat) : cnt s ≤ 16 := mem_len 16 s
theorem mem_congr {m s t : Nat} (h : ∀ i, i < m → s.testBit i = t.testBit i) : mem m s = mem m t := by
  unfold mem
  exact List.filter_congr fun i hi => h i (List.mem_range.1 hi)
theorem mem_sorted (m s : Nat) : (mem m s).Pairwise (· < ·) := by
  unfold mem
  exact List.Pairwise.filter _ List.pairwise_lt_range
theorem mem_zero (m : Nat) : mem m 0 = [] := by
  unfold mem
  simp
theorem sup_lt {m x y : Nat} (hx : x < 2 ^ m) (hy : y < 2 ^ m) : x ||| y < 2 ^ m := Nat.or_lt_two_pow hx hy
theorem lt_bit {x m i : Nat} (h : x < 2 ^ m) (hi : m ≤ i) : x.testBit i = false := Nat.testBit_lt_two_pow (Nat.lt_of_lt_of_le h (Nat.pow_le_pow_right (by omega) hi))
theorem two_or {m y : Nat} (h : y < 2 ^ m) : 2 ^ m ||| y = 2 ^ m + y := by
  have := Nat.two_pow_add_eq_or_of_lt h 1
  simpa using this.symm
theorem top_bit {m y i : Nat} (h : y < 2 ^ m) : (2 ^ m + y).testBit i = (if i < m then y.testBit i else decide (i = m)) := by
  rw [← two_or h, Nat.testBit_or, Nat.testBit_two_pow]
  by_cases h1 : i < m
  · simp [h1, show m ≠ i by omega]
  · by_cases h2 : i = m
    · simp [h2]
    · simp [h1, h2, lt_bit h (show m ≤ i by omega), show m ≠ i by omega]

theorem top_own {m y : Nat} (h : y < 2 ^ m) : (2 ^ m + y).testBit m = true := by rw [top_bit h]; simp
/-- The sets with k members that are the union of c and a set of the members in l (which come from the greatest on). -/
def cho (c : Nat) : List Nat → Nat → List Nat
  | _, 0 => [c]
  | [], _ + 1 => []
  | g :: l, k + 1 => cho c l (k + 1) ++ cho (c ||| 2 ^ g) l k
theorem cho_zero (c : Nat) (l : List Nat) : cho c l 0 = [c] := by cases l <;> rfl
theorem cho_shift (c : Nat) (l : List Nat) : ∀ d k, cho (c ||| d) l k = (cho d l k).map (c ||| ·) := by
  induction l with
  | nil => intro d k; cases k <;> simp [cho]
  | cons g l ih =>
    intro d k
    cases k with
    | zero => simp [cho]
    | succ k => rw [cho, cho, ih, Nat.or_assoc, ih, List.map_append]
theorem cho_many (c : Nat) : ∀ (l : List Nat) (k : Nat), l.length < k → cho c l k = [] := by
  intro l
  induction l generalizing c with
  | nil => intro k hk; cases k with | zero => simp at hk | succ k => rfl
  | cons g l ih =>
    intro k hk
    cases k with
    | zero => simp at hk
    | succ k =>
      simp only [List.length_cons] at hk
      rw [cho, ih c _ (by omega), ih _ _ (by omega)]
      rfl
theorem cho_len (c : Nat) : ∀ (l : List Nat) (k : Nat), (cho c l k).length ≤ 2 ^ l.length := by
  intro l
  induction l generalizing c with
  | nil => intro k; cases k <;> simp [cho]
  | cons g l ih =>
    intro k
    cases k with
    | zero => simp [cho]; exact Nat.two_pow_pos _
    | succ k =>
      rw [cho, List.length_append, List.length_cons, Nat.pow_succ]
      have := ih c (k + 1)
      have := ih (c ||| 2 ^ g) k
      omega
theorem cho_lt {m : Nat} : ∀ (l : List Nat) (c k : Nat), c < 2 ^ m → (∀ g ∈ l, g < m) → ∀ x ∈ cho c l k, x < 2 ^ m := by
  intro l
  induction l with
  | nil => intro c k hc _ x hx; cases k <;> simp [cho] at hx; omega
  | cons g l ih =>
    intro c k hc hl x hx
    cases k with
    | zero => simp [cho] at hx; omega
    | succ k =>
      rw [cho, List.mem_append] at hx
      rcases hx with hx | hx
      · exact ih c _ hc (fun g' h' => hl g' (by simp [h'])) x hx
      · exact ih _ _ (sup_lt hc (Nat.pow_lt_pow_right (by omega) (hl g (by simp)))) (fun g' h' => hl g' (by simp [h'])) x hx
/-- Is x within s, as far as the members below m go? -/
def sub (m x s : Nat) : Bool := (mem m x).all fun i => s.testBit i
theorem sub_top {m y : Nat} (s : Nat) (h : y < 2 ^ m) : sub (m + 1) (2 ^ m + y) s = (sub m y s && s.testBit m) := by
  unfold sub
  rw [mem_succ, mem_congr (t := y) (fun i hi => by rw [top_bit h, if_pos hi]), top_own h]
  simp
theorem sub_low {m y : Nat} (s : Nat) (h : y < 2 ^ m) : sub (m + 1) y s = sub m y s := by
  unfold sub
  rw [mem_succ, lt_bit h (Nat.le_refl _)]
  simp
/-- The subsets with k members among all numbers, in ascending order, are those that are found from the greatest member on. -/
theorem cho_filter (s : Nat) : ∀ (m k : Nat), (List.range (2 ^ m)).filter (fun x => sub m x s && (mem m x).length == k) = cho 0 (mem m s).reverse k := by
  intro m
  induction m with
  | zero =>
    intro k
    cases k with
    | zero => rfl
    | succ k => simp [mem, sub, cho]
  | succ m ih =>
    intro k
    have hlow : (List.range (2 ^ m)).filter (fun x => sub (m + 1) x s && (mem (m + 1) x).length == k) = cho 0 (mem m s).reverse k := by
      rw [← ih k]
      refine List.filter_congr fun x hx => ?_
      have hx := List.mem_range.1 hx
      rw [sub_low s hx, mem_succ, lt_bit hx (Nat.le_refl _)]
      simp
    have hhigh : ((List.range (2 ^ m)).map (2 ^ m + ·)).filter (fun x => sub (m + 1) x s && (mem (m + 1) x).length == k) =
        if s.testBit m then (match k with | 0 => [] | k + 1 => cho (2 ^ m) (mem m s).reverse k) else [] := by
      rw [List.filter_map]
      have hp : ∀ x ∈ List.range (2 ^ m), ((fun x => sub (m + 1) x s && (mem (m + 1) x).length == k) ∘ fun x => 2 ^ m + x) x = (sub m x s && s.testBit m && (mem m x).length + 1 == k) := by
        intro x hx
        have hx := List.mem_range.1 hx
        show (sub (m + 1) (2 ^ m + x) s && (mem (m + 1) (2 ^ m + x)).length == k) = _
        rw [sub_top s hx, mem_succ, mem_congr (t := x) (fun i hi => by rw [top_bit hx, if_pos hi]), top_own hx]
        simp
      rw [List.filter_congr hp]
      by_cases hs : s.testBit m = true
      · rw [if_pos hs]
        cases k with
        | zero => simp
        | succ k =>
          have e : (fun x => sub m x s && s.testBit m && (mem m x).length + 1 == k + 1) = (fun x => sub m x s && (mem m x).length == k) := by
            funext x
            rw [hs]
            simp
          rw [e, ih k]
          have hl : ∀ x ∈ cho 0 (mem m s).reverse k, x < 2 ^ m := cho_lt _ 0 k (Nat.two_pow_pos m) (fun g hg => mem_lt (by simpa using hg))
          have hsh := cho_shift (2 ^ m) (mem m s).reverse 0 k
          rw [Nat.or_zero] at hsh
          show _ = cho (2 ^ m) (mem m s).reverse k
          rw [hsh]
          exact List.map_congr_left fun x hx => (two_or (hl x hx)).symm
      · rw [if_neg hs]
        simp only [Bool.not_eq_true] at hs
        rw [hs]
        simp
    rw [Nat.pow_succ, Nat.mul_two, List.range_add, List.filter_append, hlow, hhigh, mem_succ]
    by_cases hs : s.testBit m = true
    · rw [if_pos hs, if_pos hs, List.reverse_append]
      cases k with
      | zero => simp [cho_zero]
      | succ k =>
        show _ = cho 0 (m :: (mem m s).reverse) (k + 1)
        rw [cho, Nat.zero_or]
    · rw [if_neg hs, if_neg hs]
      simp
theorem mem_high {m s : Nat} (h : s < 2 ^ m) : ∀ d, mem (m + d) s = mem m s := by
  intro d
  induction d with
  | zero => rfl
  | succ d ih => rw [← Nat.add_assoc, mem_succ, ih, lt_bit h (by omega)]; simp
/-- The greatest member of a set, and the others. -/
theorem mem_top {b : Nat} (h : b < 2 ^ 16) (hb : b ≠ 0) : (mem 16 b).reverse = b.log2 :: (mem 16 (b ^^^ 2 ^ b.log2)).reverse ∧ b.log2 < 16 ∧ b ^^^ 2 ^ b.log2 < 2 ^ 16 ∧ b.testBit b.log2 = true := by
  have hg : b.log2 < 16 := (Nat.log2_lt hb).2 h
  have h1 : 2 ^ b.log2 ≤ b := (Nat.le_log2 hb).1 (Nat.le_refl _)
  have h2 : b < 2 ^ (b.log2 + 1) := (Nat.log2_lt hb).1 (Nat.lt_succ_self _)
  obtain ⟨g, hge⟩ : ∃ g, b.log2 = g := ⟨_, rfl⟩
  rw [hge] at hg h1 h2 ⊢
  clear hge
  obtain ⟨y, rfl⟩ : ∃ y, b = 2 ^ g + y := ⟨b - 2 ^ g, by omega⟩
  have hy : y < 2 ^ g := by rw [Nat.pow_succ] at h2; omega
  have hx : (2 ^ g + y) ^^^ 2 ^ g = y := by
    apply Nat.eq_of_testBit_eq
    intro i
    rw [Nat.testBit_xor, top_bit hy, Nat.testBit_two_pow]
    by_cases h1 : i < g
    · simp [h1, show g ≠ i by omega]
    · by_cases h2 : i = g
      · subst h2; simp [lt_bit hy (Nat.le_refl _)]
      · simp [h1, h2, show g ≠ i by omega, lt_bit hy (show g ≤ i by omega)]
  rw [hx]
  have hbit : (2 ^ g + y).testBit g = true := top_own hy
  refine ⟨?_, hg, by have : 2 ^ g ≤ 2 ^ 16 := Nat.pow_le_pow_right (by omega) (by omega); omega, hbit⟩
  obtain ⟨d, hd⟩ : ∃ d, 16 = (g + 1) + d := ⟨15 - g, by omega⟩
  have e1 : mem 16 (2 ^ g + y) = mem (g + 1) (2 ^ g + y) := by rw [hd]; exact mem_high h2 d
  have e2 : mem 16 y = mem g y := by rw [show 16 = g + (1 + d) by omega]; exact mem_high hy _
  rw [e1, e2, mem_succ, hbit, mem_congr (t := y) (fun i hi => by rw [top_bit hy, if_pos hi])]
  simp
/-- The least member of a set, and the others. -/
theorem mem_bot {b : Nat} (h : b < 2 ^ 16) (hb : b ≠ 0) : ∃ t, t < 16 ∧ mem 16 b = t :: mem 16 (b &&& (b - 1)) ∧ b &&& (b - 1) < 2 ^ 16 ∧ b &&& (65536 - b) = 2 ^ t := by
  obtain ⟨i0, hi0⟩ := Nat.exists_testBit_of_ne_zero hb
  -- the least set bit
  have hex : ∃ t, b.testBit t = true ∧ ∀ i, i < t → b.testBit i = false := by
    have : ∀ n, (∃ i, i < n ∧ b.testBit i = true) → ∃ t, b.testBit t = true ∧ ∀ i, i < t → b.testBit i = false := by
      intro n
      induction n with
      | zero => rintro ⟨i, hi, _⟩; omega
      | succ n ih =>
        rintro ⟨i, hi, hbi⟩
        by_cases hc : ∃ j, j < n ∧ b.testBit j = true
        · exact ih hc
        · refine ⟨i, hbi, fun j hj => ?_⟩
          cases hbj : b.testBit j with
          | false => rfl
          | true => exact absurd ⟨j, by omega, hbj⟩ hc
    exact this (i0 + 1) ⟨i0, by omega, hi0⟩
  obtain ⟨t, ht, hlow⟩ := hex
  have ht16 : t < 16 := by
    rcases Nat.lt_or_ge t 16 with h1 | h1
    · exact h1
    · rw [lt_bit h h1] at ht; cases ht
  have hbits : ∀ i, (b &&& (b - 1)).testBit i = (b.testBit i && decide (i ≠ t)) := by
    -- b = 2^t * (2 q + 1)
    have hm : b % 2 ^ t = 0 := by
      apply Nat.eq_of_testBit_eq
      intro i
      rw [Nat.testBit_mod_two_pow, Nat.zero_testBit]
      by_cases hi : i < t
      · simp [hlow i hi]
      · simp [hi]
    obtain ⟨c, hc⟩ : ∃ c, b = 2 ^ t * c := ⟨b / 2 ^ t, by have := Nat.div_add_mod b (2 ^ t); omega⟩
    have hodd : c % 2 = 1 := by
      have := ht
      rw [hc, Nat.testBit_two_pow_mul] at this
      simp at this
      exact this
    obtain ⟨q, hq⟩ : ∃ q, c = 2 * q + 1 := ⟨c / 2, by omega⟩
    have hb1 : b - 1 = 2 ^ t * (2 * q) + (2 ^ t - 1) := by
      rw [hc, hq, Nat.mul_add]
      have := Nat.two_pow_pos t
      omega
    have hlt : 2 ^ t - 1 < 2 ^ t := by have := Nat.two_pow_pos t; omega
    intro i
    rw [Nat.testBit_and, hb1, Nat.testBit_two_pow_mul_add _ hlt]
    by_cases hi : i < t
    · rw [hlow i hi]; simp
    · rw [if_neg hi]
      by_cases hit : i = t
      · subst hit; simp
      · have : (i - t) ≠ 0 := by omega
        obtain ⟨j, hj⟩ : ∃ j, i - t = j + 1 := ⟨i - t - 1, by omega⟩
        rw [hc, hq, Nat.testBit_two_pow_mul, hj, Nat.testBit_succ, Nat.testBit_succ, show (2 * q + 1) / 2 = q by omega, show 2 * q / 2 = q by omega]
        simp [hit, show t ≤ i by omega]
  have hlowbit : b &&& (65536 - b) = 2 ^ t := by
    apply Nat.eq_of_testBit_eq
    intro i
    have e : 65536 - b = 2 ^ 16 - ((b - 1) + 1) := by omega
    rw [Nat.testBit_and, e, Nat.testBit_two_pow_sub_succ (show b - 1 < 2 ^ 16 by omega), Nat.testBit_two_pow]
    have hi := hbits i
    rw [Nat.testBit_and] at hi
    by_cases h16 : i < 16
    · by_cases hit : i = t
      · subst hit
        rw [ht] at hi ⊢
        simp at hi
        simp [hi, h16]
      · simp [hit] at hi
        cases hb1 : b.testBit i with
        | false => simp [Ne.symm hit]
        | true => rw [hb1] at hi; simp at hi; simp [hi, Ne.symm hit]
    · rw [lt_bit h (by omega)]
      simp
      omega
  refine ⟨t, ht16, ?_, Nat.lt_of_le_of_lt Nat.and_le_left h, hlowbit⟩
  have key : ∀ m, mem m b = if t < m then t :: mem m (b &&& (b - 1)) else [] := by
    intro m
    induction m with
    | zero => simp [mem]
    | succ m ih =>
      rw [mem_succ, mem_succ, ih, hbits]
      by_cases h1 : t < m
      · rw [if_pos h1, if_pos (show t < m + 1 by omega)]
        simp [show m ≠ t by omega]
      · rw [if_neg h1]
        by_cases h2 : m = t
        · subst h2
          rw [if_pos (show m < m + 1 by omega), ht]
          have : mem m (b &&& (b - 1)) = [] := by
            rw [List.eq_nil_iff_forall_not_mem]
            intro i hi
            rw [mem_iff, hbits] at hi
            rw [hlow i hi.1] at hi
            simp at hi
          rw [this]
          simp
        · rw [if_neg (show ¬ t < m + 1 by omega), hlow m (by omega)]
          simp
  have := key 16
  rw [if_pos ht16] at this
  exact this
end Go.Proofs.YtfdlmgjjpcdkpaaDoor
