/- The laws on the first n numbers, and on the order of sets. -/
import Derived.Test.YthepjpahabcpkaaDoorSl
namespace Go.Proofs.YthepjpahabcpkaaDoor
open Go.RowKit

set_option maxRecDepth 100000 in
set_option maxHeartbeats 2000000 in
theorem rfull_any (n : Int) (w : World) : Calls Tryd.prog 24 #[.int .i64 n] w (RetE w (fullS n)) := by
  unfold fullS
  by_cases h0 : n < 0
  · rw [if_pos (Or.inl h0)]
    go_enter Tryd.func24, Tryd.ntmps24
    go_wp2
    go_ret2
    exact ⟨rfl, Up.refl _⟩
  by_cases h1 : 12 < n
  · rw [if_pos (Or.inr h1)]
    have d0 : decide (n < 0) = false := decide_eq_false h0
    have d1 : decide (12 < n) = true := decide_eq_true h1
    clear h0 h1
    go_enter Tryd.func24, Tryd.ntmps24
    go_wp2
    go_ret2
    exact ⟨rfl, Up.refl _⟩
  · rw [if_neg (by omega)]
    obtain ⟨k, rfl⟩ : ∃ k : Nat, n = k := ⟨n.toNat, by omega⟩
    have d0 : decide ((k : Int) < 0) = false := decide_eq_false h0
    have d1 : decide (12 < (k : Int)) = false := decide_eq_false h1
    have q := full16 (show k < 16 by omega)
    rw [Int.toNat_natCast]
    have hk : k < 16 := by omega
    clear h0 h1
    go_enter Tryd.func24, Tryd.ntmps24
    go_wp2
    go_ret2
    exact ⟨rfl, Up.refl _⟩
set_option maxRecDepth 100000 in
set_option maxHeartbeats 4000000 in
theorem fullW (n : Int) (w : World) (hTab : Tabs w) : Calls Tryd.prog 5 #[.int .i64 n] w (RetV w (.bool true)) := by
  obtain ⟨p, hp⟩ : ∃ p, fullS n = p := ⟨_, rfl⟩
  have f1 := fun w => full_any n w
  have f2 := fun w => rfull_any n w
  rw [hp] at f1 f2
  obtain ⟨s, e⟩ := p
  unfold RetE at f1 f2
  dsimp only at f1 f2
  clear hp
  have q1 : (e == e) = true := by simp
  go_enter Tryd.func5, Tryd.ntmps5
  go_wp2_with fail
  refine (awake_any w hTab).mono ?_
  rintro e1 w1 ⟨rfl, hu1⟩
  go_wp2_with fail
  refine (f1 w1).mono ?_
  rintro e2 w2 ⟨rfl, hu2⟩
  go_wp2_with fail
  refine (f2 w2).mono ?_
  rintro e3 w3 ⟨rfl, hu3⟩
  go_wp2
  go_ret
  exact ⟨rfl, (hu1.trans hu2).trans hu3⟩

set_option maxRecDepth 100000 in
set_option maxHeartbeats 4000000 in
theorem rcompare_any (a b : Nat) (w : World) (ha : a < 65536) (hb : b < 65536) : Calls Tryd.prog 26 #[.int .u16 (a : Int), .int .u16 (b : Int)] w (RetV w (.int .i64 (cmpS a b))) := by
  have ca := fun w => rcount_any a w ha
  have cb := fun w => rcount_any b w hb
  obtain ⟨x, Hx⟩ : ∃ x, Hid (x = cmpS a b) := ⟨_, rfl⟩
  obtain ⟨n, hn⟩ : ∃ n, cnt a = n := ⟨_, rfl⟩
  obtain ⟨m, hm⟩ : ∃ m, cnt b = m := ⟨_, rfl⟩
  have HX : Hid (x = if cmpN n m = 0 then cmpN a b else cmpN n m) := by show x = _; rw [Hx.out]; unfold cmpS; rw [hn, hm]
  rw [← Hx.out]
  rw [hn] at ca
  rw [hm] at cb
  by_cases hab : a = b
  · have H : Hid (x = 0) := by
      show x = 0
      rw [HX.out]
      have e1 : cmpN a b = 0 := by unfold cmpN; rw [if_neg (by omega), if_neg (by omega)]
      have e2 : cmpN n m = 0 := by unfold cmpN; rw [if_neg (by subst hab; omega), if_neg (by subst hab; omega)]
      rw [e1, e2]
      rfl
    have d : ((a : Int) == (b : Int)) = true := by rw [beq_iff_eq]; omega
    clear hn hm hab
    go_enter Tryd.func26, Tryd.ntmps26
    go_wp2
    go_ret
    exact ⟨by rw [H.out]; rfl, Up.refl _⟩
  have d : ((a : Int) == (b : Int)) = false := by rw [beq_eq_false_iff_ne]; omega
  by_cases h1 : n < m
  · have H : Hid (x = -1) := by
      show x = _
      rw [HX.out]
      have e2 : cmpN n m = -1 := by unfold cmpN; rw [if_pos h1]
      rw [e2]
      rfl
    have d1 : decide (n < m) = true := decide_eq_true h1
    clear hn hm hab h1
    go_enter Tryd.func26, Tryd.ntmps26
    go_wp2_with fail
    refine (ca w).mono ?_
    rintro e1 w1 ⟨rfl, hu1⟩
    go_wp2_with fail
    refine (cb w1).mono ?_
    rintro e2 w2 ⟨rfl, hu2⟩
    go_wp2
    go_ret
    exact ⟨by rw [H.out]; rfl, hu1.trans hu2⟩
  have d1 : decide (n < m) = false := decide_eq_false h1
  by_cases h2 : n = m
  · have d2 : ((n : Int) == (m : Int)) = true := by rw [beq_iff_eq]; omega
    have e2 : cmpN n m = 0 := by unfold cmpN; rw [if_neg (by omega), if_neg (by omega)]
    by_cases h3 : a < b
    · have H : Hid (x = -1) := by
        show x = _
        rw [HX.out, if_pos e2]
        unfold cmpN
        rw [if_pos h3]
      have d3 : decide (a < b) = true := decide_eq_true h3
      clear hn hm hab h1 h2 h3 e2
      go_enter Tryd.func26, Tryd.ntmps26
      go_wp2_with fail
      refine (ca w).mono ?_
      rintro e1 w1 ⟨rfl, hu1⟩
      go_wp2_with fail
      refine (cb w1).mono ?_
      rintro e2 w2 ⟨rfl, hu2⟩
      go_wp2_with fail
      refine (ca w2).mono ?_
      rintro e3 w3 ⟨rfl, hu3⟩
      go_wp2_with fail
      refine (cb w3).mono ?_
      rintro e4 w4 ⟨rfl, hu4⟩
      go_wp2
      go_ret
      exact ⟨by rw [H.out]; rfl, ((hu1.trans hu2).trans hu3).trans hu4⟩
    · have H : Hid (x = 1) := by
        show x = _
        rw [HX.out, if_pos e2]
        unfold cmpN
        rw [if_neg h3, if_pos (by omega)]
      have d3 : decide (a < b) = false := decide_eq_false h3
      clear hn hm hab h1 h2 h3 e2
      go_enter Tryd.func26, Tryd.ntmps26
      go_wp2_with fail
      refine (ca w).mono ?_
      rintro e1 w1 ⟨rfl, hu1⟩
      go_wp2_with fail
      refine (cb w1).mono ?_
      rintro e2 w2 ⟨rfl, hu2⟩
      go_wp2_with fail
      refine (ca w2).mono ?_
      rintro e3 w3 ⟨rfl, hu3⟩
      go_wp2_with fail
      refine (cb w3).mono ?_
      rintro e4 w4 ⟨rfl, hu4⟩
      go_wp2
      go_ret
      exact ⟨by rw [H.out]; rfl, ((hu1.trans hu2).trans hu3).trans hu4⟩
  · have d2 : ((n : Int) == (m : Int)) = false := by rw [beq_eq_false_iff_ne]; omega
    have H : Hid (x = 1) := by
      show x = _
      rw [HX.out]
      have e2 : cmpN n m = 1 := by unfold cmpN; rw [if_neg h1, if_pos (by omega)]
      rw [e2]
      rfl
    clear hn hm hab h1 h2
    go_enter Tryd.func26, Tryd.ntmps26
    go_wp2_with fail
    refine (ca w).mono ?_
    rintro e1 w1 ⟨rfl, hu1⟩
    go_wp2_with fail
    refine (cb w1).mono ?_
    rintro e2 w2 ⟨rfl, hu2⟩
    go_wp2_with fail
    refine (ca w2).mono ?_
    rintro e3 w3 ⟨rfl, hu3⟩
    go_wp2_with fail
    refine (cb w3).mono ?_
    rintro e4 w4 ⟨rfl, hu4⟩
    go_wp2
    go_ret
    exact ⟨by rw [H.out]; rfl, ((hu1.trans hu2).trans hu3).trans hu4⟩

theorem cmpN_neg (a b : Nat) : cmpN b a = -cmpN a b := by
  unfold cmpN
  by_cases h1 : a < b
  · rw [if_neg (show ¬ b < a by omega), if_pos h1, if_pos h1]
    rfl
  · by_cases h2 : b < a
    · rw [if_pos h2, if_neg h1, if_pos h2]
    · rw [if_neg h2, if_neg h1, if_neg h1, if_neg h2]; rfl
theorem cmpN_zero (a b : Nat) : cmpN a b = 0 ↔ a = b := by
  unfold cmpN
  by_cases h1 : a < b
  · rw [if_pos h1]; constructor <;> intro h <;> omega
  · by_cases h2 : b < a
    · rw [if_neg h1, if_pos h2]; constructor <;> intro h <;> omega
    · rw [if_neg h1, if_neg h2]; constructor <;> intro h <;> omega
theorem cmpN_le (a b : Nat) : cmpN a b ≤ 0 ↔ a ≤ b := by
  unfold cmpN
  by_cases h1 : a < b
  · rw [if_pos h1]; constructor <;> intro h <;> omega
  · by_cases h2 : b < a
    · rw [if_neg h1, if_pos h2]; constructor <;> intro h <;> omega
    · rw [if_neg h1, if_neg h2]; constructor <;> intro h <;> omega
theorem cmpS_neg (a b : Nat) : cmpS b a = -cmpS a b := by
  unfold cmpS
  rw [cmpN_neg (cnt a) (cnt b), cmpN_neg a b]
  by_cases h : cmpN (cnt a) (cnt b) = 0
  · rw [if_pos h, if_pos (by omega)]
  · rw [if_neg h, if_neg (by omega)]
theorem cmpS_zero (a b : Nat) : cmpS a b = 0 ↔ a = b := by
  unfold cmpS
  by_cases h : cmpN (cnt a) (cnt b) = 0
  · rw [if_pos h, cmpN_zero]
  · rw [if_neg h]
    constructor
    · intro h2; exact absurd h2 h
    · intro h2; subst h2; exact absurd ((cmpN_zero _ _).2 rfl) h
theorem cmpS_le (a b : Nat) : cmpS a b ≤ 0 ↔ cnt a < cnt b ∨ (cnt a = cnt b ∧ a ≤ b) := by
  unfold cmpS
  by_cases h : cmpN (cnt a) (cnt b) = 0
  · rw [if_pos h, cmpN_le]
    have := (cmpN_zero _ _).1 h
    omega
  · rw [if_neg h, cmpN_le]
    have : cnt a ≠ cnt b := fun e => h ((cmpN_zero _ _).2 e)
    omega
theorem cmpN_rng (a b : Nat) : -1 ≤ cmpN a b ∧ cmpN a b ≤ 1 := by
  unfold cmpN
  split
  · omega
  · split <;> omega
theorem cmpS_rng (a b : Nat) : -1 ≤ cmpS a b ∧ cmpS a b ≤ 1 := by
  unfold cmpS
  split <;> exact cmpN_rng _ _
theorem cmpS_trans (a b c : Nat) (h1 : cmpS a b ≤ 0) (h2 : cmpS b c ≤ 0) : cmpS a c ≤ 0 := by
  rw [cmpS_le] at *
  omega
theorem cnt_and (a b : Nat) : cnt (a &&& b) ≤ cnt a := by
  unfold cnt mem
  have : ∀ l : List Nat, (l.filter fun i => (a &&& b).testBit i).length ≤ (l.filter fun i => a.testBit i).length := by
    intro l
    induction l with
    | nil => simp
    | cons x l ih =>
      simp only [List.filter_cons, Nat.testBit_and]
      simp only [Nat.testBit_and] at ih
      cases a.testBit x <;> cases b.testBit x <;> simp <;> omega
  exact this _
theorem cmpS_and (a b : Nat) : cmpS (a &&& b) a ≤ 0 := by
  rw [cmpS_le]
  have := cnt_and a b
  have : a &&& b ≤ a := Nat.and_le_left
  omega
set_option maxRecDepth 100000 in
set_option maxHeartbeats 4000000 in
theorem orderW (a b c : Nat) (w : World) (hTab : Tabs w) (ha : a < 65536) (hb : b < 65536) (hc : c < 65536) : Calls Tryd.prog 6 #[.int .u16 (a : Int), .int .u16 (b : Int), .int .u16 (c : Int)] w (RetV w (.bool true)) := by
  have c1 := fun w => compare_any a b w ha hb
  have c2 := fun w => compare_any b a w hb ha
  have c3 := fun w => compare_any b c w hb hc
  have c4 := fun w => compare_any a c w ha hc
  have c5 := fun w => rcompare_any a b w ha hb
  have hand := and16 (b := b) ha
  have c6 := fun w => compare_any (a &&& b) a w (Nat.lt_of_le_of_lt Nat.and_le_left ha) ha
  have t1 := cmpS_neg a b
  have t2 := cmpS_zero a b
  have t3 := cmpS_and a b
  have t4 := cmpS_trans a b c
  have t5 := cmpS_rng a b
  rw [t1] at c2
  clear t1
  obtain ⟨v, hv⟩ : ∃ v, -cmpS a b = v := ⟨_, rfl⟩
  rw [hv] at c2
  obtain ⟨x, hx⟩ : ∃ x, cmpS a b = x := ⟨_, rfl⟩
  obtain ⟨y, hy⟩ : ∃ y, cmpS b c = y := ⟨_, rfl⟩
  obtain ⟨z, hz⟩ : ∃ z, cmpS a c = z := ⟨_, rfl⟩
  obtain ⟨p, hp⟩ : ∃ p, a &&& b = p := ⟨_, rfl⟩
  rw [hp] at hand c6 t3
  obtain ⟨u, hu⟩ : ∃ u, cmpS p a = u := ⟨_, rfl⟩
  rw [hx] at c1 c5 t2 t4 t5 hv
  rw [hy] at c3 t4
  rw [hz] at c4 t4
  rw [hu] at c6 t3
  clear hx hy hz hu hp
  have H4 := hide t4
  clear t4
  obtain ⟨b1, b2⟩ := t5
  have v1 : -1 ≤ v := by omega
  have v2 : v ≤ 1 := by omega
  have nv : -v = x := by omega
  clear hv
  have e0 : (x != x) = false := by simp
  have e1 : (x == 0) = ((a : Int) == (b : Int)) := by
    rw [Bool.eq_iff_iff, beq_iff_eq, beq_iff_eq, t2]
    omega
  obtain ⟨q, hq⟩ : ∃ q, ((a : Int) == (b : Int)) = q := ⟨_, rfl⟩
  rw [hq] at e1
  have q0 : (q != q) = false := by simp
  have e2 : decide (0 < u) = false := decide_eq_false (by omega)
  clear t2 t3
  go_enter Tryd.func6, Tryd.ntmps6
  go_wp2_with fail
  refine (awake_any w hTab).mono ?_
  rintro e w1 ⟨rfl, hu1⟩
  go_wp2_with fail
  refine (c1 w1).mono ?_
  rintro e w2 ⟨rfl, hu2⟩
  go_wp2_with fail
  refine (c2 w2).mono ?_
  rintro e w3 ⟨rfl, hu3⟩
  go_wp2_with fail
  refine (c3 w3).mono ?_
  rintro e w4 ⟨rfl, hu4⟩
  go_wp2_with fail
  refine (c4 w4).mono ?_
  rintro e w5 ⟨rfl, hu5⟩
  go_wp2_with fail
  refine (c5 w5).mono ?_
  rintro e w6 ⟨rfl, hu6⟩
  go_wp2_with fail
  refine (c6 w6).mono ?_
  rintro e w7 ⟨rfl, hu7⟩
  have hup : Up w w7 := (((((hu1.trans hu2).trans hu3).trans hu4).trans hu5).trans hu6).trans hu7
  clear hu1 hu2 hu3 hu4 hu5 hu6 hu7 c1 c2 c3 c4 c5 c6
  by_cases h1 : 0 < x
  · have d1 : decide (0 < x) = true := decide_eq_true h1
    clear h1
    go_wp2
    go_ret
    exact ⟨rfl, hup⟩
  have d1 : decide (0 < x) = false := decide_eq_false h1
  by_cases h2 : 0 < y
  · have d2 : decide (0 < y) = true := decide_eq_true h2
    clear h1 h2
    go_wp2
    go_ret
    exact ⟨rfl, hup⟩
  have d2 : decide (0 < y) = false := decide_eq_false h2
  have d3 : decide (z ≤ 0) = true := decide_eq_true (H4.out (by omega) (by omega))
  clear h1 h2
  go_wp2
  go_ret
  exact ⟨rfl, hup⟩
end Go.Proofs.YthepjpahabcpkaaDoor
