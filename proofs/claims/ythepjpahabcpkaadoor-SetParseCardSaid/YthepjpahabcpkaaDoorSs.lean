/- The text of a set, read back: plain words. -/
import Derived.Test.YthepjpahabcpkaaDoorSl
import Derived.Lib.SlTrimSet
import Derived.Shelf.Strings.FieldsAny
import Derived.Lib.AtoiAll
namespace Go.Proofs.YthepjpahabcpkaaDoor
open Go.RowKit

/-- Words read into a set. -/
def lp : Nat → List (List UInt8) → Option Nat
  | acc, [] => some acc
  | acc, x :: r => match Lib.atoiAll x with
    | .ok v => if (addS acc v).2 = 0 then lp (addS acc v).1 r else none
    | _ => none
/-- The words of a text. -/
def wdsU (b : List UInt8) : List (List UInt8) := Lib.fieldsD (Lib.trimS b [123, 125])
/-- A text read: the set and the error. -/
def parseU (b : List UInt8) : Nat × Int := match lp 0 (wdsU b) with
  | some p => if txU p = b then (p, 0) else (0, 2)
  | none => (0, 2)
theorem dec16 {i : Nat} (h : i < 16) : Lib.decDigits i = if i < 10 then [UInt8.ofNat (48 + i)] else [49, UInt8.ofNat (38 + i)] := by
  by_cases h10 : i < 10
  · rw [dec_one h10, if_pos h10]
  · rw [if_neg h10, Lib.decDigits, dif_neg h10]
    have e1 : i / 10 = 1 := by omega
    have e2 : 48 + i % 10 = 38 + i := by omega
    rw [e1, dec_one (by omega), e2]
    rfl
theorem dig_ok {i : Nat} (h : i < 16) : Lib.atoiAll (Lib.decDigits i) = .ok (i : Int) := by
  rw [dec16 h]
  have : ∀ j : Fin 16, Lib.atoiAll (if j.1 < 10 then [UInt8.ofNat (48 + j.1)] else [49, UInt8.ofNat (38 + j.1)]) = .ok (j.1 : Int) := by decide +kernel
  exact this ⟨i, h⟩
theorem dig_byte {i : Nat} (h : i < 16) : ∀ b ∈ Lib.decDigits i, 48 ≤ b.toNat ∧ b.toNat ≤ 57 := by
  rw [dec16 h]
  have : ∀ j : Fin 16, (if j.1 < 10 then [UInt8.ofNat (48 + j.1)] else [49, UInt8.ofNat (38 + j.1)]).all (fun b => decide (48 ≤ b.toNat ∧ b.toNat ≤ 57)) = true := by decide +kernel
  intro b hb
  exact of_decide_eq_true (List.all_eq_true.1 (this ⟨i, h⟩) b hb)
theorem dig_ne {i : Nat} (h : i < 16) : Lib.decDigits i ≠ [] := by
  rw [dec16 h]
  split <;> simp
theorem go_word : ∀ (x cur l : List UInt8), (∀ b ∈ x, Lib.isSp b = false) → Lib.fieldsGo cur (x ++ l) = Lib.fieldsGo (cur ++ x) l
  | [], cur, l, _ => by simp
  | b :: x, cur, l, h => by
    rw [List.cons_append, Lib.fieldsGo_more cur b _ (h b (by simp)), go_word x _ l (fun c hc => h c (by simp [hc]))]
    simp
theorem sp_dig {b : UInt8} (h : 48 ≤ b.toNat ∧ b.toNat ≤ 57) : Lib.isSp b = false := by
  have : ∀ b : UInt8, 48 ≤ b.toNat ∧ b.toNat ≤ 57 → Lib.isSp b = false := by
    intro b hb
    have k : ∀ j : Fin 256, 48 ≤ j.1 ∧ j.1 ≤ 57 → Lib.isSp (UInt8.ofNat j.1) = false := by decide +kernel
    have := k ⟨b.toNat, b.toNat_lt⟩ hb
    simpa using this
  exact this b h
theorem go_tail : ∀ (r : List (List UInt8)) (cur : List UInt8), cur ≠ [] → (∀ x ∈ r, x ≠ [] ∧ ∀ b ∈ x, Lib.isSp b = false) → Lib.fieldsGo cur (Lib.joinTail [32] r) = cur :: r
  | [], cur, hc, _ => by
    cases cur with
    | nil => exact absurd rfl hc
    | cons a t => simp [Lib.joinTail, Lib.fieldsGo]
  | y :: r, cur, hc, h => by
    have e : Lib.joinTail [32] (y :: r) = 32 :: (y ++ Lib.joinTail [32] r) := by simp [Lib.joinTail]
    rw [e, Lib.fieldsGo_end cur 32 _ (by decide) hc, go_word y [] _ (h y (by simp)).2, List.nil_append, go_tail r y (h y (by simp)).1 (fun x hx => h x (by simp [hx]))]
theorem fields_fm (M : List Nat) (h : ∀ i ∈ M, i < 16) : Lib.fields (fmU M) = M.map Lib.decDigits := by
  unfold fmU Lib.fields
  cases M with
  | nil => simp [Lib.join_nil, Lib.fieldsGo]
  | cons i M =>
    rw [List.map_cons, Lib.join_cons, go_word _ _ _ (fun b hb => sp_dig (dig_byte (h i (by simp)) b hb)), List.nil_append, go_tail _ _ (dig_ne (h i (by simp)))]
    intro x hx
    obtain ⟨j, hj, rfl⟩ := List.mem_map.1 hx
    have hj' := h j (by simp [hj])
    exact ⟨dig_ne hj', fun b hb => sp_dig (dig_byte hj' b hb)⟩
theorem fm_byte (M : List Nat) (h : ∀ i ∈ M, i < 16) : ∀ b ∈ fmU M, b.toNat ≤ 57 := by
  have key : ∀ r : List (List UInt8), (∀ x ∈ r, ∀ b ∈ x, b.toNat ≤ 57) → ∀ b ∈ Lib.joinTail [32] r, b.toNat ≤ 57 := by
    intro r
    induction r with
    | nil => intro _ b hb; simp [Lib.joinTail] at hb
    | cons y r ih =>
      intro hr b hb
      have e : Lib.joinTail [32] (y :: r) = 32 :: (y ++ Lib.joinTail [32] r) := by simp [Lib.joinTail]
      rw [e] at hb
      rcases List.mem_cons.1 hb with rfl | hb
      · decide
      · rcases List.mem_append.1 hb with hb | hb
        · exact hr y (by simp) b hb
        · exact ih (fun x hx => hr x (by simp [hx])) b hb
  intro b hb
  unfold fmU at hb
  cases M with
  | nil => simp [Lib.join_nil] at hb
  | cons i M =>
    rw [List.map_cons, Lib.join_cons] at hb
    rcases List.mem_append.1 hb with hb | hb
    · exact (dig_byte (h i (by simp)) b hb).2
    · refine key _ (fun x hx b hb => ?_) b hb
      obtain ⟨j, hj, rfl⟩ := List.mem_map.1 hx
      exact (dig_byte (h j (by simp [hj])) b hb).2
theorem drop_none {p : UInt8 → Bool} {f : List UInt8} (g : List UInt8) (hne : f ≠ []) (h : ∀ b ∈ f, p b = false) : (f ++ g).dropWhile p = f ++ g := by
  cases f with
  | nil => exact absurd rfl hne
  | cons b f => simp [h b (by simp)]
theorem trim_tx (f : List UInt8) (h : ∀ b ∈ f, b.toNat ≤ 57) : Lib.trimS ((123 :: f) ++ [125]) [123, 125] = f := by
  have hp : ∀ b ∈ f, ([123, 125] : List UInt8).contains b = false := by
    intro b hb
    have := h b hb
    simp only [List.contains_cons, List.contains_nil, Bool.or_false, Bool.or_eq_false_iff, beq_eq_false_iff_ne]
    exact ⟨fun e => by rw [e] at this; exact absurd this (by decide), fun e => by rw [e] at this; exact absurd this (by decide)⟩
  unfold Lib.trimS Lib.trimRightS Lib.trimLeftS
  by_cases hf : f = []
  · subst hf
    decide
  · have e : ((123 :: f) ++ [125] : List UInt8).reverse = 125 :: (f.reverse ++ [123]) := by simp
    rw [e, List.dropWhile_cons_of_pos (by decide), drop_none [123] (by simpa using hf) (fun b hb => hp b (by simpa using hb))]
    have e2 : (f.reverse ++ [123] : List UInt8).reverse = 123 :: f := by simp
    rw [e2, List.dropWhile_cons_of_pos (by decide)]
    have := drop_none (p := fun b => ([123, 125] : List UInt8).contains b) [] hf hp
    simpa using this
theorem wds_tx {s : Nat} : wdsU (txU s) = (mem 16 s).map Lib.decDigits := by
  have hm : ∀ i ∈ mem 16 s, i < 16 := fun i hi => mem_lt hi
  unfold wdsU txU
  rw [trim_tx _ (fm_byte _ hm), Lib.fieldsD_ascii _ (fun b hb => by have := fm_byte _ hm b hb; omega), fields_fm _ hm]
theorem lp_app : ∀ (l m : List (List UInt8)) (acc : Nat), lp acc (l ++ m) = (lp acc l).bind fun a => lp a m
  | [], m, acc => rfl
  | x :: l, m, acc => by
    simp only [List.cons_append, lp]
    cases Lib.atoiAll x with
    | ok v =>
      dsimp only
      split
      · exact lp_app l m _
      · rfl
    | «syntax» => rfl
    | range => rfl
theorem lp_low (s : Nat) : ∀ m, m ≤ 12 → lp 0 ((mem m s).map Lib.decDigits) = some (s % 2 ^ m)
  | 0, _ => by simp [mem, lp, Nat.mod_one]
  | m + 1, h => by
    rw [mem_succ, List.map_append, lp_app, lp_low s m (by omega)]
    show lp (s % 2 ^ m) _ = _
    by_cases hb : s.testBit m = true
    · rw [if_pos hb]
      have ht : (s % 2 ^ m).testBit m = false := by simp [Nat.testBit_mod_two_pow]
      have ha : addS (s % 2 ^ m) (m : Int) = ((s % 2 ^ m) ||| 2 ^ m, 0) := by
        unfold addS
        rw [if_neg (by omega), Int.toNat_natCast, if_neg (by rw [ht]; decide)]
      simp only [List.map_cons, List.map_nil, lp, dig_ok (show m < 16 by omega), ha, if_true]
      congr 1
      refine Nat.eq_of_testBit_eq fun i => ?_
      rw [Nat.testBit_or, Nat.testBit_mod_two_pow, Nat.testBit_mod_two_pow, Nat.testBit_two_pow]
      by_cases h1 : i < m
      · simp [h1, show i < m + 1 by omega, show ¬ m = i by omega]
      · by_cases h2 : i = m
        · subst h2
          simp [hb]
        · simp [h1, show ¬ i < m + 1 by omega, show ¬ m = i by omega]
    · rw [if_neg hb]
      simp only [List.map_nil, lp]
      congr 1
      refine Nat.eq_of_testBit_eq fun i => ?_
      rw [Nat.testBit_mod_two_pow, Nat.testBit_mod_two_pow]
      by_cases h2 : i = m
      · subst h2
        simp [Bool.eq_false_iff.2 hb]
      · by_cases h1 : i < m
        · simp [h1, show i < m + 1 by omega]
        · simp [h1, show ¬ i < m + 1 by omega]
theorem lp_high : ∀ (M : List Nat) (acc : Nat), (∀ i ∈ M, i < 16) → (∃ i ∈ M, 12 ≤ i) → lp acc (M.map Lib.decDigits) = none
  | [], _, _, h => by obtain ⟨i, hi, _⟩ := h; cases hi
  | i :: M, acc, hl, h => by
    simp only [List.map_cons, lp, dig_ok (hl i (by simp))]
    by_cases h12 : 12 ≤ i
    · have : (addS acc (i : Int)).2 = 7 := by unfold addS; rw [if_pos (by omega)]
      rw [if_neg (by rw [this]; decide)]
    · split
      · refine lp_high M _ (fun j hj => hl j (by simp [hj])) ?_
        obtain ⟨j, hj, hj2⟩ := h
        rcases List.mem_cons.1 hj with rfl | hj
        · exact absurd hj2 h12
        · exact ⟨j, hj, hj2⟩
      · rfl
theorem lp_tx {s : Nat} (hs : s < 65536) : lp 0 (wdsU (txU s)) = if s < 4096 then some s else none := by
  rw [wds_tx]
  by_cases h : s < 4096
  · rw [if_pos h, show mem 16 s = mem (12 + 4) s from rfl, mem_high (show s < 2 ^ 12 from h) 4, lp_low s 12 (Nat.le_refl _)]
    congr 1
    exact Nat.mod_eq_of_lt h
  · rw [if_neg h]
    refine lp_high _ _ (fun i hi => mem_lt hi) ?_
    apply Classical.byContradiction
    intro hn
    refine h (show s < 2 ^ 12 from Nat.lt_pow_two_of_testBit s fun i hi => ?_)
    by_cases h16 : i < 16
    · cases hb : s.testBit i with
      | false => rfl
      | true => exact absurd ⟨i, mem_iff.2 ⟨h16, hb⟩, hi⟩ hn
    · exact Nat.testBit_lt_two_pow (Nat.lt_of_lt_of_le (show s < 2 ^ 16 from hs) (Nat.pow_le_pow_right (by omega) (by omega)))
theorem parse_tx {s : Nat} (hs : s < 65536) : parseU (txU s) = if s < 4096 then (s, 0) else (0, 2) := by
  unfold parseU
  rw [lp_tx hs]
  by_cases h : s < 4096
  · simp [h]
  · simp [h]
theorem tx_inj {s t : Nat} (hs : s < 4096) (ht : t < 4096) (h : txU s = txU t) : s = t := by
  have h1 := lp_tx (s := s) (by omega)
  have h2 := lp_tx (s := t) (by omega)
  rw [h, h2, if_pos hs, if_pos ht] at h1
  injection h1.symm
theorem lp_lt : ∀ (l : List (List UInt8)) (acc p : Nat), acc < 4096 → lp acc l = some p → p < 4096
  | [], acc, p, ha, h => by simp only [lp] at h; injection h with h; omega
  | x :: l, acc, p, ha, h => by
    simp only [lp] at h
    split at h
    · rename_i v _
      split at h
      · exact lp_lt l _ p (show _ < 2 ^ 12 from addS_lt (Nat.le_refl _) ha) h
      · cases h
    · cases h
theorem tx_len {s : Nat} (hs : s < 4096) : (txU s).length ≤ 40 := by
  have h1 := fm_len (mem 12 s) (fun i hi => by have := mem_lt hi; omega)
  have h2 := mem_len 12 s
  have e : mem 16 s = mem 12 s := mem_high (show s < 2 ^ 12 from hs) 4
  unfold txU
  rw [e]
  simp
  omega
end Go.Proofs.YthepjpahabcpkaaDoor
