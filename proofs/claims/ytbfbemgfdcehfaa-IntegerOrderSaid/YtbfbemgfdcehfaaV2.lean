/- The program's Sign and Cmp on valid integers. -/
import Derived.Test.YtbfbemgfdcehfaaD6
namespace Go.Proofs.Ytbfbemgfdcehfaa
open Go.RowKit


set_option maxHeartbeats 1000000 in
theorem sign_zero (B : Nat) (v : Value) (x : Int) (w : World) (hv : IsInt B w v x) (hx : x.natAbs < top300) (hs : x = 0) : Calls Try.prog 18 #[v] w fun e w' => e = .returned (.int .i64 (0)) ∧ Up w w' := by
  obtain ⟨s, A, n, c, rfl, Hs, Hn, hl, hc, _⟩ := hv
  obtain rfl : n = 0 := by rw [Hn.out, hs]; simp [lim_zero]
  obtain ⟨w0, hw0⟩ : ∃ w0, w0 = (w.alloc (.cells #[.bool s, .slice A 0 c] 24)) := ⟨_, rfl⟩
  have hb1 : Bk w0 (w.heap.size) 24 #[.bool s, .slice A 0 c] := by
    have := Bk.new w 24 #[.bool s, .slice A 0 c]
    rw [hw0]; simpa using this
  have hup0 : Up w w0 := by rw [hw0]; exact (Up.refl w).alloc _
  have hsz0 : w.heap.size + 1 ≤ w0.heap.size := by rw [hw0]; simp
  have Hw0 := hide hw0
  clear hw0
  have e1a := hb1.cell (i := 0) rfl
  have e1b := hb1.cell (i := 1) rfl
  go_enter Try.func18, Try.ntmps18
  go_wp2_with fail
  rw [← Hw0.out]
  refine (validI_any 0 _ x w0 ⟨s, A, 0, c, rfl, Hs, Hn, hl.up hup0, hc, fun _ _ => Nat.zero_le _⟩ hx).mono ?_
  rintro e w1 ⟨rfl, hup1⟩
  have g1 : w1.cell? ⟨w.heap.size, 0, none⟩ = some (.bool s) := hup1.keep e1a
  have g2 : w1.cell? ⟨w.heap.size, 1, none⟩ = some (.slice A 0 c) := hup1.keep e1b
  go_wp2
  go_ret
  exact ⟨rfl, hup0.trans hup1⟩

set_option maxHeartbeats 1000000 in
theorem sign_neg (B : Nat) (v : Value) (x : Int) (w : World) (hv : IsInt B w v x) (hx : x.natAbs < top300) (hs : x < 0) : Calls Try.prog 18 #[v] w fun e w' => e = .returned (.int .i64 (-1)) ∧ Up w w' := by
  obtain ⟨s, A, n, c, rfl, Hs, Hn, hl, hc, _⟩ := hv
  obtain rfl : s = true := by rw [Hs.out]; simpa using hs
  have hn0 : n ≠ 0 := by rw [Hn.out]; intro e; rw [lim_len_zero] at e; omega
  have hnb : ((n : Int) == 0) = false := by rw [beq_eq_false_iff_ne]; omega
  obtain ⟨w0, hw0⟩ : ∃ w0, w0 = (w.alloc (.cells #[.bool true, .slice A n c] 24)) := ⟨_, rfl⟩
  have hb1 : Bk w0 (w.heap.size) 24 #[.bool true, .slice A n c] := by
    have := Bk.new w 24 #[.bool true, .slice A n c]
    rw [hw0]; simpa using this
  have hup0 : Up w w0 := by rw [hw0]; exact (Up.refl w).alloc _
  have hsz0 : w.heap.size + 1 ≤ w0.heap.size := by rw [hw0]; simp
  have Hw0 := hide hw0
  clear hw0
  have e1a := hb1.cell (i := 0) rfl
  have e1b := hb1.cell (i := 1) rfl
  go_enter Try.func18, Try.ntmps18
  go_wp2_with fail
  rw [← Hw0.out]
  refine (validI_any 0 _ x w0 ⟨true, A, n, c, rfl, Hs, Hn, hl.up hup0, hc, fun _ _ => Nat.zero_le _⟩ hx).mono ?_
  rintro e w1 ⟨rfl, hup1⟩
  have g1 : w1.cell? ⟨w.heap.size, 0, none⟩ = some (.bool true) := hup1.keep e1a
  have g2 : w1.cell? ⟨w.heap.size, 1, none⟩ = some (.slice A n c) := hup1.keep e1b
  go_wp2
  go_ret
  exact ⟨rfl, hup0.trans hup1⟩

set_option maxHeartbeats 1000000 in
theorem sign_pos (B : Nat) (v : Value) (x : Int) (w : World) (hv : IsInt B w v x) (hx : x.natAbs < top300) (hs : 0 < x) : Calls Try.prog 18 #[v] w fun e w' => e = .returned (.int .i64 (1)) ∧ Up w w' := by
  obtain ⟨s, A, n, c, rfl, Hs, Hn, hl, hc, _⟩ := hv
  obtain rfl : s = false := by rw [Hs.out]; simp; omega
  have hn0 : n ≠ 0 := by rw [Hn.out]; intro e; rw [lim_len_zero] at e; omega
  have hnb : ((n : Int) == 0) = false := by rw [beq_eq_false_iff_ne]; omega
  obtain ⟨w0, hw0⟩ : ∃ w0, w0 = (w.alloc (.cells #[.bool false, .slice A n c] 24)) := ⟨_, rfl⟩
  have hb1 : Bk w0 (w.heap.size) 24 #[.bool false, .slice A n c] := by
    have := Bk.new w 24 #[.bool false, .slice A n c]
    rw [hw0]; simpa using this
  have hup0 : Up w w0 := by rw [hw0]; exact (Up.refl w).alloc _
  have hsz0 : w.heap.size + 1 ≤ w0.heap.size := by rw [hw0]; simp
  have Hw0 := hide hw0
  clear hw0
  have e1a := hb1.cell (i := 0) rfl
  have e1b := hb1.cell (i := 1) rfl
  go_enter Try.func18, Try.ntmps18
  go_wp2_with fail
  rw [← Hw0.out]
  refine (validI_any 0 _ x w0 ⟨false, A, n, c, rfl, Hs, Hn, hl.up hup0, hc, fun _ _ => Nat.zero_le _⟩ hx).mono ?_
  rintro e w1 ⟨rfl, hup1⟩
  have g1 : w1.cell? ⟨w.heap.size, 0, none⟩ = some (.bool false) := hup1.keep e1a
  have g2 : w1.cell? ⟨w.heap.size, 1, none⟩ = some (.slice A n c) := hup1.keep e1b
  go_wp2
  go_ret
  exact ⟨rfl, hup0.trans hup1⟩

theorem signI_any (B : Nat) (v : Value) (x : Int) (w : World) (hv : IsInt B w v x) (hx : x.natAbs < top300) : Calls Try.prog 18 #[v] w fun e w' => e = .returned (.int .i64 x.sign) ∧ Up w w' := by
  rcases Int.lt_trichotomy x 0 with h | h | h
  · rw [Int.sign_eq_neg_one_of_neg h]; exact sign_neg B v x w hv hx h
  · rw [show x.sign = 0 by rw [h]; rfl]; exact sign_zero B v x w hv hx h
  · rw [Int.sign_eq_one_of_pos h]; exact sign_pos B v x w hv hx h

set_option maxHeartbeats 1000000 in
theorem cmp_nn (B B' : Nat) (v v' : Value) (x y : Int) (w : World) (hv : IsInt B w v x) (hv' : IsInt B' w v' y) (hx : x.natAbs < top300) (hy : y.natAbs < top300) (hsx : x < 0) (hsy : y < 0) : Calls Try.prog 20 #[v, v'] w fun e w' => e = .returned (.int .i64 (cmpZ x y)) ∧ Up w w' := by
  obtain ⟨s, A, n, c, rfl, Hs, Hn, hl, hc, hN⟩ := hv
  obtain ⟨t, C, m, d, rfl, Ht, Hm, hm, hd, hN'⟩ := hv'
  obtain rfl : s = true := by rw [Hs.out]; simp; omega
  obtain rfl : t = true := by rw [Ht.out]; simp; omega
  have hn34 : n ≤ 34 := by rw [Hn.out]; exact len_of_top hx
  have hm34 : m ≤ 34 := by rw [Hm.out]; exact len_of_top hy
  have HC : Hid (cmpZ x y = cmpN y.natAbs x.natAbs) := by show _ = _; unfold cmpZ cmpN; (repeat' split) <;> omega
  clear hsx hsy
  obtain ⟨w0, hw0⟩ : ∃ w0, w0 = ((w.alloc (.cells #[.bool true, .slice A n c] 24)).alloc (.cells #[.bool true, .slice C m d] 24)) := ⟨_, rfl⟩
  have hb1 : Bk w0 (w.heap.size) 24 #[.bool true, .slice A n c] := by
    have := (Bk.new w 24 #[.bool true, .slice A n c]).alloc (.cells #[.bool true, .slice C m d] 24)
    rw [hw0]; simpa using this
  have hb2 : Bk w0 (w.heap.size + 1) 24 #[.bool true, .slice C m d] := by
    have := Bk.new (w.alloc (.cells #[.bool true, .slice A n c] 24)) 24 #[.bool true, .slice C m d]
    rw [hw0]; simpa using this
  have hup0 : Up w w0 := by rw [hw0]; exact ((Up.refl w).alloc _).alloc _
  have hsz0 : w.heap.size + 2 ≤ w0.heap.size := by rw [hw0]; simp
  have Hw0 := hide hw0
  clear hw0
  have e1a := hb1.cell (i := 0) rfl
  have e1b := hb1.cell (i := 1) rfl
  have e2a := hb2.cell (i := 0) rfl
  have e2b := hb2.cell (i := 1) rfl
  go_enter Try.func20, Try.ntmps20
  go_wp2_with fail
  rw [← Hw0.out]
  refine (both_any B B' _ _ x y w0 ⟨true, A, n, c, rfl, Hs, Hn, hl.up hup0, hc, hN⟩ ⟨true, C, m, d, rfl, Ht, Hm, hm.up hup0, hd, hN'⟩ hx hy).mono ?_
  rintro e w1 ⟨rfl, hup1⟩
  have g1 := hup1.keep e1a
  have g2 := hup1.keep e1b
  have g3 := hup1.keep e2a
  have g4 := hup1.keep e2b
  go_wp2_with fail
  refine (compare_any C A d c y.natAbs x.natAbs _ (hm.up (hup0.trans hup1)) (hl.up (hup0.trans hup1)) m n Hm Hn (by omega) (by omega)).mono ?_
  rintro e w2 ⟨rfl, q, rfl⟩
  go_wp2
  go_ret
  exact ⟨by rw [HC.out]; rfl, (hup0.trans hup1).drewN q⟩

set_option maxHeartbeats 1000000 in
theorem cmp_np (B B' : Nat) (v v' : Value) (x y : Int) (w : World) (hv : IsInt B w v x) (hv' : IsInt B' w v' y) (hx : x.natAbs < top300) (hy : y.natAbs < top300) (hsx : x < 0) (hsy : ¬ y < 0) : Calls Try.prog 20 #[v, v'] w fun e w' => e = .returned (.int .i64 (cmpZ x y)) ∧ Up w w' := by
  obtain ⟨s, A, n, c, rfl, Hs, Hn, hl, hc, hN⟩ := hv
  obtain ⟨t, C, m, d, rfl, Ht, Hm, hm, hd, hN'⟩ := hv'
  obtain rfl : s = true := by rw [Hs.out]; simp; omega
  obtain rfl : t = false := by rw [Ht.out]; simp; omega
  have hn34 : n ≤ 34 := by rw [Hn.out]; exact len_of_top hx
  have hm34 : m ≤ 34 := by rw [Hm.out]; exact len_of_top hy
  have HC : Hid (cmpZ x y = -1) := by show _ = _; unfold cmpZ; (repeat' split) <;> omega
  clear hsx hsy
  obtain ⟨w0, hw0⟩ : ∃ w0, w0 = ((w.alloc (.cells #[.bool true, .slice A n c] 24)).alloc (.cells #[.bool false, .slice C m d] 24)) := ⟨_, rfl⟩
  have hb1 : Bk w0 (w.heap.size) 24 #[.bool true, .slice A n c] := by
    have := (Bk.new w 24 #[.bool true, .slice A n c]).alloc (.cells #[.bool false, .slice C m d] 24)
    rw [hw0]; simpa using this
  have hb2 : Bk w0 (w.heap.size + 1) 24 #[.bool false, .slice C m d] := by
    have := Bk.new (w.alloc (.cells #[.bool true, .slice A n c] 24)) 24 #[.bool false, .slice C m d]
    rw [hw0]; simpa using this
  have hup0 : Up w w0 := by rw [hw0]; exact ((Up.refl w).alloc _).alloc _
  have hsz0 : w.heap.size + 2 ≤ w0.heap.size := by rw [hw0]; simp
  have Hw0 := hide hw0
  clear hw0
  have e1a := hb1.cell (i := 0) rfl
  have e1b := hb1.cell (i := 1) rfl
  have e2a := hb2.cell (i := 0) rfl
  have e2b := hb2.cell (i := 1) rfl
  go_enter Try.func20, Try.ntmps20
  go_wp2_with fail
  rw [← Hw0.out]
  refine (both_any B B' _ _ x y w0 ⟨true, A, n, c, rfl, Hs, Hn, hl.up hup0, hc, hN⟩ ⟨false, C, m, d, rfl, Ht, Hm, hm.up hup0, hd, hN'⟩ hx hy).mono ?_
  rintro e w1 ⟨rfl, hup1⟩
  have g1 := hup1.keep e1a
  have g2 := hup1.keep e1b
  have g3 := hup1.keep e2a
  have g4 := hup1.keep e2b
  go_wp2_with fail
  go_ret
  exact ⟨by rw [HC.out]; rfl, hup0.trans hup1⟩

set_option maxHeartbeats 1000000 in
theorem cmp_pn (B B' : Nat) (v v' : Value) (x y : Int) (w : World) (hv : IsInt B w v x) (hv' : IsInt B' w v' y) (hx : x.natAbs < top300) (hy : y.natAbs < top300) (hsx : ¬ x < 0) (hsy : y < 0) : Calls Try.prog 20 #[v, v'] w fun e w' => e = .returned (.int .i64 (cmpZ x y)) ∧ Up w w' := by
  obtain ⟨s, A, n, c, rfl, Hs, Hn, hl, hc, hN⟩ := hv
  obtain ⟨t, C, m, d, rfl, Ht, Hm, hm, hd, hN'⟩ := hv'
  obtain rfl : s = false := by rw [Hs.out]; simp; omega
  obtain rfl : t = true := by rw [Ht.out]; simp; omega
  have hn34 : n ≤ 34 := by rw [Hn.out]; exact len_of_top hx
  have hm34 : m ≤ 34 := by rw [Hm.out]; exact len_of_top hy
  have HC : Hid (cmpZ x y = 1) := by show _ = _; unfold cmpZ; (repeat' split) <;> omega
  clear hsx hsy
  obtain ⟨w0, hw0⟩ : ∃ w0, w0 = ((w.alloc (.cells #[.bool false, .slice A n c] 24)).alloc (.cells #[.bool true, .slice C m d] 24)) := ⟨_, rfl⟩
  have hb1 : Bk w0 (w.heap.size) 24 #[.bool false, .slice A n c] := by
    have := (Bk.new w 24 #[.bool false, .slice A n c]).alloc (.cells #[.bool true, .slice C m d] 24)
    rw [hw0]; simpa using this
  have hb2 : Bk w0 (w.heap.size + 1) 24 #[.bool true, .slice C m d] := by
    have := Bk.new (w.alloc (.cells #[.bool false, .slice A n c] 24)) 24 #[.bool true, .slice C m d]
    rw [hw0]; simpa using this
  have hup0 : Up w w0 := by rw [hw0]; exact ((Up.refl w).alloc _).alloc _
  have hsz0 : w.heap.size + 2 ≤ w0.heap.size := by rw [hw0]; simp
  have Hw0 := hide hw0
  clear hw0
  have e1a := hb1.cell (i := 0) rfl
  have e1b := hb1.cell (i := 1) rfl
  have e2a := hb2.cell (i := 0) rfl
  have e2b := hb2.cell (i := 1) rfl
  go_enter Try.func20, Try.ntmps20
  go_wp2_with fail
  rw [← Hw0.out]
  refine (both_any B B' _ _ x y w0 ⟨false, A, n, c, rfl, Hs, Hn, hl.up hup0, hc, hN⟩ ⟨true, C, m, d, rfl, Ht, Hm, hm.up hup0, hd, hN'⟩ hx hy).mono ?_
  rintro e w1 ⟨rfl, hup1⟩
  have g1 := hup1.keep e1a
  have g2 := hup1.keep e1b
  have g3 := hup1.keep e2a
  have g4 := hup1.keep e2b
  go_wp2_with fail
  go_ret
  exact ⟨by rw [HC.out]; rfl, hup0.trans hup1⟩

set_option maxHeartbeats 1000000 in
theorem cmp_pp (B B' : Nat) (v v' : Value) (x y : Int) (w : World) (hv : IsInt B w v x) (hv' : IsInt B' w v' y) (hx : x.natAbs < top300) (hy : y.natAbs < top300) (hsx : ¬ x < 0) (hsy : ¬ y < 0) : Calls Try.prog 20 #[v, v'] w fun e w' => e = .returned (.int .i64 (cmpZ x y)) ∧ Up w w' := by
  obtain ⟨s, A, n, c, rfl, Hs, Hn, hl, hc, hN⟩ := hv
  obtain ⟨t, C, m, d, rfl, Ht, Hm, hm, hd, hN'⟩ := hv'
  obtain rfl : s = false := by rw [Hs.out]; simp; omega
  obtain rfl : t = false := by rw [Ht.out]; simp; omega
  have hn34 : n ≤ 34 := by rw [Hn.out]; exact len_of_top hx
  have hm34 : m ≤ 34 := by rw [Hm.out]; exact len_of_top hy
  have HC : Hid (cmpZ x y = cmpN x.natAbs y.natAbs) := by show _ = _; unfold cmpZ cmpN; (repeat' split) <;> omega
  clear hsx hsy
  obtain ⟨w0, hw0⟩ : ∃ w0, w0 = ((w.alloc (.cells #[.bool false, .slice A n c] 24)).alloc (.cells #[.bool false, .slice C m d] 24)) := ⟨_, rfl⟩
  have hb1 : Bk w0 (w.heap.size) 24 #[.bool false, .slice A n c] := by
    have := (Bk.new w 24 #[.bool false, .slice A n c]).alloc (.cells #[.bool false, .slice C m d] 24)
    rw [hw0]; simpa using this
  have hb2 : Bk w0 (w.heap.size + 1) 24 #[.bool false, .slice C m d] := by
    have := Bk.new (w.alloc (.cells #[.bool false, .slice A n c] 24)) 24 #[.bool false, .slice C m d]
    rw [hw0]; simpa using this
  have hup0 : Up w w0 := by rw [hw0]; exact ((Up.refl w).alloc _).alloc _
  have hsz0 : w.heap.size + 2 ≤ w0.heap.size := by rw [hw0]; simp
  have Hw0 := hide hw0
  clear hw0
  have e1a := hb1.cell (i := 0) rfl
  have e1b := hb1.cell (i := 1) rfl
  have e2a := hb2.cell (i := 0) rfl
  have e2b := hb2.cell (i := 1) rfl
  go_enter Try.func20, Try.ntmps20
  go_wp2_with fail
  rw [← Hw0.out]
  refine (both_any B B' _ _ x y w0 ⟨false, A, n, c, rfl, Hs, Hn, hl.up hup0, hc, hN⟩ ⟨false, C, m, d, rfl, Ht, Hm, hm.up hup0, hd, hN'⟩ hx hy).mono ?_
  rintro e w1 ⟨rfl, hup1⟩
  have g1 := hup1.keep e1a
  have g2 := hup1.keep e1b
  have g3 := hup1.keep e2a
  have g4 := hup1.keep e2b
  go_wp2_with fail
  refine (compare_any A C c d x.natAbs y.natAbs _ (hl.up (hup0.trans hup1)) (hm.up (hup0.trans hup1)) n m Hn Hm (by omega) (by omega)).mono ?_
  rintro e w2 ⟨rfl, q, rfl⟩
  go_wp2
  go_ret
  exact ⟨by rw [HC.out]; rfl, (hup0.trans hup1).drewN q⟩

theorem cmpI_any (B B' : Nat) (v v' : Value) (x y : Int) (w : World) (hv : IsInt B w v x) (hv' : IsInt B' w v' y) (hx : x.natAbs < top300) (hy : y.natAbs < top300) : Calls Try.prog 20 #[v, v'] w fun e w' => e = .returned (.int .i64 (cmpZ x y)) ∧ Up w w' := by
  by_cases hsx : x < 0 <;> by_cases hsy : y < 0
  · exact cmp_nn B B' v v' x y w hv hv' hx hy hsx hsy
  · exact cmp_np B B' v v' x y w hv hv' hx hy hsx hsy
  · exact cmp_pn B B' v v' x y w hv hv' hx hy hsx hsy
  · exact cmp_pp B B' v v' x y w hv hv' hx hy hsx hsy
end Go.Proofs.Ytbfbemgfdcehfaa
