/- Walks inside a fence: the subsets with k members are yielded in order. -/
import Derived.Test.YtfdlmgjjpcdkpaaDoorSf
namespace Go.Proofs.YtfdlmgjjpcdkpaaDoor
open Go.RowKit Go.Shelf
attribute [local go_sem] Oper.semAt_some

theorem andn_pow {b g : Nat} (hb : b < 65536) (hg : g < 16) (ht : b.testBit g = true) : andN b (2 ^ g) = b ^^^ 2 ^ g := by
  apply Nat.eq_of_testBit_eq
  intro i
  rw [andN_bit (show 2 ^ g < 2 ^ 16 from Nat.pow_lt_pow_right (by omega) hg), Nat.testBit_xor, Nat.testBit_two_pow]
  by_cases h : g = i
  · subst h; rw [ht]; simp
  · by_cases h16 : i < 16
    · simp [h, h16]
    · rw [lt_bit (show b < 2 ^ 16 from hb) (by omega)]
      simp [h]
theorem aux_log : ∀ (f x : Nat), x < 2 ^ f → Lib.bitLenAux f x = if x = 0 then 0 else x.log2 + 1 := by
  intro f
  induction f with
  | zero => intro x hx; have : x = 0 := by omega
            subst this; rfl
  | succ f ih =>
    intro x hx
    rw [Lib.bitLenAux]
    by_cases h0 : x = 0
    · rw [if_pos h0, if_pos h0]
    · rw [if_neg h0, if_neg h0, ih (x / 2) (by rw [Nat.pow_succ] at hx; omega)]
      by_cases h1 : x / 2 = 0
      · have : x = 1 := by omega
        subst this; rfl
      · rw [if_neg h1, Nat.log2_def x, if_pos (by omega)]
        omega
theorem len_any (b : Nat) (w : World) (hb : b < 65536) (h0 : b ≠ 0) : Calls Tryd.prog 99 #[.int .u16 (b : Int)] w fun e w' => e = .returned (.int .i64 ((b.log2 : Int) + 1)) ∧ w' = w := by
  refine (Tryd.bits_Len16 (b : Int) w (by omega) (by omega)).mono ?_
  rintro e w' ⟨rfl, rfl⟩
  refine ⟨?_, rfl⟩
  rw [Int.toNat_natCast]
  show Ending.returned (Value.int .i64 ((Lib.bitLenAux 64 b : Nat) : Int)) = _
  rw [aux_log 64 b (by omega), if_neg h0]
  rfl
/-- A round of the loop to which yield belongs. -/
def Rounds (l n₀ : Nat) (t : TypeId) (n₁ : Nat) (xs : List Nat) (J Jx : List Nat → World → Prop) : Prop := ∀ (pre : List Nat) (x : Nat) (W : World), J pre W → pre ++ [x] <+: xs → YieldAt Fence.wide 0 Tryd.prog l #[.int .u16 (x : Int)] W fun e W' =>
  (e = .returned (.bool true) ∧ J (pre ++ [x]) W' ∧ Kp n₀ t n₁ W W') ∨ (e = .returned (.bool false) ∧ Jx (pre ++ [x]) W' ∧ Kp n₀ t n₁ W W')
/-- What a function returns that yields ys. -/
def Yields (n₀ : Nat) (t : TypeId) (n₁ : Nat) (J Jx : List Nat → World → Prop) (pre ys : List Nat) (W : World) (e : Ending) (W' : World) : Prop :=
  (e = .returned (.bool true) ∧ J (pre ++ ys) W' ∧ Kp n₀ t n₁ W W') ∨ (e = .returned (.bool false) ∧ ∃ q, q <+: ys ∧ Jx (pre ++ q) W')
set_option maxRecDepth 100000 in
set_option maxHeartbeats 2000000 in
theorem choices_in (l n₀ n₁ B : Nat) (t : TypeId) (xs : List Nat) (J Jx : List Nat → World → Prop) (hJ : OwnFrom B J) (hY : Rounds l n₀ t n₁ xs J Jx) :
    ∀ (m b c k : Nat) (pre : List Nat) (W : World), (mem 16 b).length = m → b < 65536 → c < 65536 → n₀ ≤ W.heap.size → J pre W → pre ++ cho c (mem 16 b).reverse k <+: xs →
      CallsIn Fence.wide 0 Tryd.prog 84 #[.int .u16 (c : Int), .int .u16 (b : Int), .int .i64 (k : Int), .func (.yield l) #[] #[]] W (Yields n₀ t n₁ J Jx pre (cho c (mem 16 b).reverse k) W) := by
  intro m
  induction m using Nat.strongRecOn with
  | _ m ih =>
    intro b c k pre W hm hb hc hn hj hpre
    have d0 : decide ((k : Int) < 0) = false := decide_eq_false (by omega)
    have hcnt : cnt b = m := hm
    have hcount := count_any b W hb
    rw [hcnt] at hcount
    obtain ⟨ys, Hys⟩ : ∃ ys, Hid (ys = cho c (mem 16 b).reverse k) := ⟨_, rfl⟩
    rw [← Hys.out] at hpre ⊢
    have up1 : ∀ W1, Up W W1 → J pre W1 ∧ Kp n₀ t n₁ W W1 ∧ n₀ ≤ W1.heap.size := fun W1 hu =>
      ⟨hJ pre W W1 none hj (up_grown hu) (by simp), Kp.of_below hu hn, Nat.le_trans hn hu.size⟩
    by_cases hlt : m < k
    · have H : Hid (ys = []) := by show ys = _; rw [Hys.out]; exact cho_many c _ k (by rw [List.length_reverse, hm]; exact hlt)
      have d1 : decide (m < k) = true := decide_eq_true hlt
      clear hlt
      refine callsIn_of_wp Tryd.func84 rfl trivial ?_ rfl
      simp only [Tryd.ntmps84, List.size_toArray, List.length_cons, List.length_nil, Nat.reduceAdd, Nat.reduceSub, Array.replicate_succ, Array.replicate_zero, List.push_toArray, List.append_toArray, List.nil_append, List.cons_append]
      gi_wp2_with fail
      refine ⟨trivial, rfl, (callsIn_wide.2 hcount).mono ?_⟩
      rintro e W1 ⟨rfl, hu1⟩
      obtain ⟨hj1, hb1, hn1⟩ := up1 W1 hu1
      gi_wp2
      go_ret
      exact .inl ⟨rfl, by rw [H.out, List.append_nil]; exact hj1, hb1⟩
    have d1 : decide (m < k) = false := decide_eq_false hlt
    by_cases h0 : k = 0
    · have H : Hid (ys = [c]) := by show ys = _; rw [Hys.out, h0]; exact cho_zero c _
      have d2 : ((k : Int) == 0) = true := by rw [h0]; rfl
      rw [H.out] at hpre
      clear hlt h0
      refine callsIn_of_wp Tryd.func84 rfl trivial ?_ rfl
      simp only [Tryd.ntmps84, List.size_toArray, List.length_cons, List.length_nil, Nat.reduceAdd, Nat.reduceSub, Array.replicate_succ, Array.replicate_zero, List.push_toArray, List.append_toArray, List.nil_append, List.cons_append]
      gi_wp2_with fail
      refine ⟨trivial, rfl, (callsIn_wide.2 hcount).mono ?_⟩
      rintro e W1 ⟨rfl, hu1⟩
      obtain ⟨hj1, hb1, hn1⟩ := up1 W1 hu1
      obtain ⟨fn, tmps, assign, body, hy, hR⟩ := hY pre c W1 hj1 hpre
      gi_wp2_with fail
      refine ⟨rfl, hR.mono ?_⟩
      rintro e W2 (⟨rfl, hj2, hb2⟩ | ⟨rfl, hx2, _⟩)
      · gi_wp2
        go_ret
        exact .inl ⟨rfl, by rw [H.out]; exact hj2, hb1.trans hb2⟩
      · gi_wp2
        go_ret
        exact .inr ⟨rfl, [c], by rw [H.out]; exact ⟨[], by simp⟩, hx2⟩
    · have d2 : ((k : Int) == 0) = false := by rw [beq_eq_false_iff_ne]; omega
      have hb0 : b ≠ 0 := by
        intro e
        rw [e, mem_zero] at hm
        simp at hm
        omega
      obtain ⟨htop, hg, hb2, hbit⟩ := mem_top (b := b) hb hb0
      have hlen := len_any b
      obtain ⟨g, hgE⟩ : ∃ g, b.log2 = g := ⟨_, rfl⟩
      rw [hgE] at htop hg hb2 hbit hlen
      have hpow := pow16 hg
      have hp16 : 2 ^ g < 65536 := (show 2 ^ g < 2 ^ 16 from Nat.pow_lt_pow_right (by omega) hg)
      have handn := andn16 (a := b) (b := 2 ^ g) hb hp16
      rw [andn_pow hb hg hbit] at handn
      have hor := or16 (a := c) (b := 2 ^ g) hc hp16
      have hc2 : c ||| 2 ^ g < 65536 := Nat.or_lt_two_pow (n := 16) hc hp16
      have hk : k ≤ 1000 := by have := mem_len 16 b; omega
      obtain ⟨j, hjE⟩ : ∃ j, k = j + 1 := ⟨k - 1, by omega⟩
      have ek : (k : Int) - 1 = (j : Int) := by omega
      have hm2 : (mem 16 (b ^^^ 2 ^ g)).length < m := by
        have := congrArg List.length htop
        rw [List.length_reverse, hm, List.length_cons, List.length_reverse] at this
        omega
      have H : Hid (ys = cho c (mem 16 (b ^^^ 2 ^ g)).reverse k ++ cho (c ||| 2 ^ g) (mem 16 (b ^^^ 2 ^ g)).reverse j) := by
        show ys = _
        rw [Hys.out, htop, hjE]
        rfl
      obtain ⟨r, hr⟩ : ∃ r, b ^^^ 2 ^ g = r := ⟨_, rfl⟩
      obtain ⟨p, hp⟩ : ∃ p, 2 ^ g = p := ⟨_, rfl⟩
      obtain ⟨c2, hc2E⟩ : ∃ c2, c ||| p = c2 := ⟨_, rfl⟩
      rw [hr] at hb2 hm2 H handn
      rw [hp] at hp16 hor hc2 hpow handn H
      rw [hc2E] at hor hc2 H
      obtain ⟨y1, Hy1⟩ : ∃ y1, Hid (y1 = cho c (mem 16 r).reverse k) := ⟨_, rfl⟩
      obtain ⟨y2, Hy2⟩ : ∃ y2, Hid (y2 = cho c2 (mem 16 r).reverse j) := ⟨_, rfl⟩
      rw [← Hy1.out, ← Hy2.out] at H
      rw [H.out] at hpre
      have ih1 : ∀ W1, J pre W1 → n₀ ≤ W1.heap.size → CallsIn Fence.wide 0 Tryd.prog 84 #[.int .u16 (c : Int), .int .u16 (r : Int), .int .i64 (k : Int), .func (.yield l) #[] #[]] W1 (Yields n₀ t n₁ J Jx pre y1 W1) := by
        intro W1 hj1 hn1
        rw [Hy1.out]
        refine ih _ hm2 r c k pre W1 rfl hb2 hc hn1 hj1 (List.IsPrefix.trans ?_ hpre)
        rw [← Hy1.out, ← List.append_assoc]
        exact List.prefix_append _ _
      have ih2 : ∀ W1, J (pre ++ y1) W1 → n₀ ≤ W1.heap.size → CallsIn Fence.wide 0 Tryd.prog 84 #[.int .u16 (c2 : Int), .int .u16 (r : Int), .int .i64 (j : Int), .func (.yield l) #[] #[]] W1 (Yields n₀ t n₁ J Jx (pre ++ y1) y2 W1) := by
        intro W1 hj1 hn1
        rw [Hy2.out]
        refine ih _ hm2 r c2 j (pre ++ y1) W1 rfl hb2 hc2 hn1 hj1 ?_
        rw [← Hy2.out, List.append_assoc]
        exact hpre
      clear ih hlt h0 htop hbit hgE hm2 hr hp hc2E hjE
      refine callsIn_of_wp Tryd.func84 rfl trivial ?_ rfl
      simp only [Tryd.ntmps84, List.size_toArray, List.length_cons, List.length_nil, Nat.reduceAdd, Nat.reduceSub, Array.replicate_succ, Array.replicate_zero, List.push_toArray, List.append_toArray, List.nil_append, List.cons_append]
      gi_wp2_with fail
      refine ⟨trivial, rfl, (callsIn_wide.2 hcount).mono ?_⟩
      rintro e W1 ⟨rfl, hu1⟩
      obtain ⟨hj1, hb1, hn1⟩ := up1 W1 hu1
      gi_wp2_with fail
      refine ⟨trivial, rfl, (callsIn_wide.2 (hlen W1 hb hb0)).mono ?_⟩
      rintro e W2 ⟨rfl, rfl⟩
      gi_wp2_with fail
      refine ⟨trivial, rfl, (ih1 _ hj1 hn1).mono ?_⟩
      clear ih1
      rintro e W3 (⟨rfl, hj3, hb3⟩ | ⟨rfl, q, hq, hx⟩)
      · have hn3 : n₀ ≤ W3.heap.size := Nat.le_trans hn1 hb3.size
        gi_wp2_with fail
        refine ⟨trivial, rfl, (ih2 _ hj3 hn3).mono ?_⟩
        clear ih2
        rintro e W4 (⟨rfl, hj4, hb4⟩ | ⟨rfl, q, hq, hx⟩)
        · gi_wp2
          go_ret
          exact .inl ⟨rfl, by rw [H.out, ← List.append_assoc]; exact hj4, (hb1.trans hb3).trans hb4⟩
        · gi_wp2
          go_ret
          refine .inr ⟨rfl, y1 ++ q, ?_, by rw [← List.append_assoc]; exact hx⟩
          rw [H.out]
          obtain ⟨z, hz⟩ := hq
          exact ⟨z, by rw [List.append_assoc, hz]⟩
      · gi_wp2_with fail
        refine ⟨trivial, ?_⟩
        gi_wp2
        go_ret
        exact .inr ⟨rfl, q, by rw [H.out]; exact List.IsPrefix.trans hq (List.prefix_append _ _), hx⟩
end Go.Proofs.YtfdlmgjjpcdkpaaDoor
