/- Walks: the set of the first n numbers and the order of sets, by both. -/
import Derived.Test.YtfdlmgjjpcdkpaaDoorFq
import Derived.Test.YtfdlmgjjpcdkpaaDoorShelf
namespace Go.Proofs.YtfdlmgjjpcdkpaaDoor
open Go.RowKit

set_option maxRecDepth 100000 in
set_option maxHeartbeats 2000000 in
theorem full_any (n : Int) (w : World) : Calls Tryd.prog 57 #[.int .i64 n] w (RetE w (fullS n)) := by
  unfold fullS
  by_cases h0 : n < 0
  · rw [if_pos (Or.inl h0)]
    go_enter Tryd.func57, Tryd.ntmps57
    go_wp2
    go_ret2
    exact ⟨rfl, Up.refl _⟩
  by_cases h1 : 12 < n
  · rw [if_pos (Or.inr h1)]
    have d0 : decide (n < 0) = false := decide_eq_false h0
    have d1 : decide (12 < n) = true := decide_eq_true h1
    clear h0 h1
    go_enter Tryd.func57, Tryd.ntmps57
    go_wp2
    go_ret2
    exact ⟨rfl, Up.refl _⟩
  · rw [if_neg (by omega)]
    obtain ⟨k, rfl⟩ : ∃ k : Nat, n = k := ⟨n.toNat, by omega⟩
    have d0 : decide ((k : Int) < 0) = false := decide_eq_false h0
    have d1 : decide (12 < (k : Int)) = false := decide_eq_false h1
    have q := full16 (show k < 16 by omega)
    rw [Int.toNat_natCast]
    have hk : k < 16 := by omega
    clear h0 h1
    go_enter Tryd.func57, Tryd.ntmps57
    go_wp2
    go_ret2
    exact ⟨rfl, Up.refl _⟩
set_option maxRecDepth 100000 in
set_option maxHeartbeats 2000000 in
theorem or_any (g c : Nat) (x y : Int) (w : World) (c0 : w.cell? ⟨g, 0, none⟩ = some (.int .i64 x)) (c1 : w.cell? ⟨g, 1, none⟩ = some (.int .i64 y)) : Calls Tryd.prog 62 #[.slice (some ⟨g, 0, none⟩) 2 c] w fun e w' => e = .returned (.int .i64 (if x = 0 then y else x)) ∧ w' = w := by
  obtain ⟨r, Hr⟩ : ∃ r, Hid (r = if x = 0 then y else x) := ⟨_, rfl⟩
  rw [← Hr.out]
  go_enter Tryd.func62, Tryd.ntmps62
  go_wp2
  go_loopw [8] (fun v wr => Hid (wr = w) ∧ ∃ k : Nat, v = .int .i64 (k : Int) ∧ k ≤ 2 ∧ Hid ((1 ≤ k → x = 0) ∧ (2 ≤ k → y = 0))) (fun v _ => 2 - (intOf v).toNat)
  case atStart => exact ⟨rfl, 0, rfl, by omega, ⟨by omega, by omega⟩⟩
  case round =>
    obtain ⟨HW, k, rfl, hk, HX⟩ := hrel
    obtain rfl := HW.out
    have hk3 : k = 0 ∨ k = 1 ∨ k = 2 := by omega
    rcases hk3 with rfl | rfl | rfl
    · by_cases h : x = 0
      · have n0 : (x != 0) = false := by rw [bne_eq_false_iff_eq]; exact h
        have H := hide h
        clear h
        go_wp2
        go_roundw
        case rel => exact ⟨hide trivial, 1, rfl, by omega, ⟨fun _ => H.out, by omega⟩⟩
        case measure => simp [intOf]
      · have ne : (x != 0) = true := by rw [bne_iff_ne]; exact h
        have H := hide h
        clear h
        go_wp2
        go_ret
        exact ⟨by rw [Hr.out, if_neg H.out]; rfl, rfl⟩
    · have Hx := hide (HX.out.1 (by omega))
      by_cases h : y = 0
      · have n0 : (y != 0) = false := by rw [bne_eq_false_iff_eq]; exact h
        have H := hide h
        clear h
        go_wp2
        go_roundw
        case rel => exact ⟨hide trivial, 2, rfl, by omega, ⟨fun _ => Hx.out, fun _ => H.out⟩⟩
        case measure => simp [intOf]
      · have ne : (y != 0) = true := by rw [bne_iff_ne]; exact h
        go_wp2
        go_ret
        exact ⟨by rw [Hr.out, if_pos Hx.out]; rfl, rfl⟩
    · have Hx := hide (HX.out.1 (by omega))
      have Hy := hide (HX.out.2 (by omega))
      go_wp2
      go_ret
      exact ⟨by rw [Hr.out, if_pos Hx.out, Hy.out]; rfl, rfl⟩
set_option maxRecDepth 100000 in
theorem nan_any (a : Nat) (w : World) : Calls Tryd.prog 80 #[.int .u16 (a : Int)] w fun e w' => e = .returned (.bool false) ∧ w' = w := by
  go_enter Tryd.func80, Tryd.ntmps80
  go_wp2
  go_ret
  exact ⟨rfl, rfl⟩
set_option maxRecDepth 100000 in
set_option maxHeartbeats 2000000 in
theorem comp_any (a b : Nat) (w : World) : Calls Tryd.prog 65 #[.int .u16 (a : Int), .int .u16 (b : Int)] w fun e w' => e = .returned (.int .i64 (cmpN a b)) ∧ w' = w := by
  obtain ⟨r, Hr⟩ : ∃ r, Hid (r = cmpN a b) := ⟨_, rfl⟩
  rw [← Hr.out]
  go_enter Tryd.func65, Tryd.ntmps65
  go_wp2_with fail
  refine (nan_any a w).mono ?_
  rintro e w1 ⟨rfl, rfl⟩
  go_wp2_with fail
  refine (nan_any b w1).mono ?_
  rintro e w2 ⟨rfl, rfl⟩
  by_cases h1 : a < b
  · have H : Hid (r = -1) := by show r = _; rw [Hr.out]; unfold cmpN; rw [if_pos h1]
    have d : decide (a < b) = true := decide_eq_true h1
    clear h1
    go_wp2
    go_ret
    exact ⟨by rw [H.out]; rfl, rfl⟩
  by_cases h2 : b < a
  · have H : Hid (r = 1) := by show r = _; rw [Hr.out]; unfold cmpN; rw [if_neg h1, if_pos h2]
    have d : decide (a < b) = false := decide_eq_false h1
    have d2 : decide (b < a) = true := decide_eq_true h2
    clear h1 h2
    go_wp2
    go_ret
    exact ⟨by rw [H.out]; rfl, rfl⟩
  · have H : Hid (r = 0) := by show r = _; rw [Hr.out]; unfold cmpN; rw [if_neg h1, if_neg h2]
    have d : decide (a < b) = false := decide_eq_false h1
    have d2 : decide (b < a) = false := decide_eq_false h2
    clear h1 h2
    go_wp2
    go_ret
    exact ⟨by rw [H.out]; rfl, rfl⟩
theorem cmpInt (a b : Nat) : Lib.compareInt (a : Int) (b : Int) = cmpN a b := by
  unfold Lib.compareInt cmpN
  by_cases h1 : a < b
  · simp [h1]
  · by_cases h2 : b < a
    · simp [h1, h2]
    · simp [h1, h2]
set_option maxRecDepth 100000 in
set_option maxHeartbeats 2000000 in
theorem compareX_any (a b : Nat) (w : World) (ha : a < 65536) (hb : b < 65536) : Calls Tryd.prog 39 #[.int .u16 (a : Int), .int .u16 (b : Int)] w fun e w' => e = .returned (.int .i64 (cmpS a b)) ∧ ∃ o, w' = (w.drewN 2).alloc o := by
  obtain ⟨x, Hx⟩ : ∃ x, Hid (x = cmpN (cnt a) (cnt b)) := ⟨_, rfl⟩
  obtain ⟨y, Hy⟩ : ∃ y, Hid (y = cmpN a b) := ⟨_, rfl⟩
  obtain ⟨z, Hz⟩ : ∃ z, Hid (z = if x = 0 then y else x) := ⟨_, rfl⟩
  have e : cmpS a b = z := by unfold cmpS; rw [Hz.out, ← Hx.out, ← Hy.out]
  rw [e]
  clear e
  go_enter Tryd.func39, Tryd.ntmps39
  go_wp2_with fail
  refine (countX_any a w ha).mono ?_
  rintro e w1 ⟨rfl, h1⟩
  replace h1 := hide h1
  go_wp2_with fail
  refine (countX_any b w1 hb).mono ?_
  rintro e w2 ⟨rfl, h2⟩
  have h3 : Hid (w2 = w.drewN 2) := by show _ = _; rw [h2, h1.out]; rfl
  clear h1 h2
  go_wp2_with fail
  refine (Tryd.cmp_Compare_int _ _ w2).mono ?_
  rw [cmpInt, ← Hx.out]
  rintro e w3 ⟨rfl, rfl⟩
  go_wp2_with fail
  have hc := comp_any a b w3
  rw [← Hy.out] at hc
  refine hc.mono ?_
  rintro e w4 ⟨rfl, rfl⟩
  go_wp2_with fail
  refine (or_any _ _ x y _ ?_ ?_).mono ?_
  · unfold World.cell?; rw [heap_alloc_new]; rfl
  · unfold World.cell?; rw [heap_alloc_new]; rfl
  rw [← Hz.out]
  rintro e w5 ⟨rfl, rfl⟩
  go_wp2
  go_ret
  exact ⟨rfl, _, by rw [h3.out]⟩
theorem compare_any (a b : Nat) (w : World) (ha : a < 65536) (hb : b < 65536) : Calls Tryd.prog 39 #[.int .u16 (a : Int), .int .u16 (b : Int)] w (RetV w (.int .i64 (cmpS a b))) :=
  (compareX_any a b w ha hb).mono fun _ _ ⟨he, o, hw⟩ => ⟨he, by rw [hw]; exact ((Up.refl w).drewN 2).alloc o⟩
end Go.Proofs.YtfdlmgjjpcdkpaaDoor
