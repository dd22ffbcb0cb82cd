import Derived.Test.YtldifgfpecicnaaGreatDoorGD
import Derived.Test.YtldifgfpecicnaaGreatDoorGB
import Derived.Test.YtldifgfpecicnaaGreatDoorGE
import Derived.Test.YtldifgfpecicnaaGreatDoorV1
import Derived.Test.YtldifgfpecicnaaGreatDoorGC
import Derived.Test.YtldifgfpecicnaaGreatDoorG1
import Derived.ProofKit
import Derived.OpenShut
import Derived.ChangeOld
import Derived.Below
import Derived.Lib.SmallJoins
import Derived.RegionTactic
/- The program's Sign and Cmp on valid integers. -/
namespace Go.Proofs.YtldifgfpecicnaaGreatDoor
open Go.RowKit


set_option maxRecDepth 100000 in
set_option maxHeartbeats 1000000 in
theorem sign_zero (B : Nat) (v : Value) (x : Int) (w : World) (hv : IsInt B w v x) (hx : x.natAbs < top300) (hs : x = 0) : Calls Tryz.prog 45 #[v] w fun e w' => e = .returned (.int .i64 (0)) ∧ Up w w' := by
  obtain ⟨s, A, n, c, rfl, Hs, Hn, hl, hc, _⟩ := hv
  obtain rfl : n = 0 := by rw [Hn.out, hs]; simp [lim_zero]
  obtain ⟨w0, hw0⟩ : ∃ w0, w0 = (w.alloc (.cells #[.bool s, .slice A 0 c] 24)) := ⟨_, rfl⟩
  have hb1 : Bk w0 (w.heap.size) 24 #[.bool s, .slice A 0 c] := by
    have := Bk.new w 24 #[.bool s, .slice A 0 c]
    rw [hw0]; simpa using this
  have hup0 : Up w w0 := by rw [hw0]; exact (Up.refl w).alloc _
  have hsz0 : w.heap.size + 1 ≤ w0.heap.size := by rw [hw0]; simp
  have Hw0 := hide hw0
  clear hw0
  have e1a := hb1.cell (i := 0) rfl
  have e1b := hb1.cell (i := 1) rfl
  go_enter Tryz.func45, Tryz.ntmps45
  go_wp2_with fail
  rw [← Hw0.out]
  refine (validI_any 0 _ x w0 ⟨s, A, 0, c, rfl, Hs, Hn, hl.up hup0, hc, fun _ _ => Nat.zero_le _⟩ hx).mono ?_
  rintro e w1 ⟨rfl, hup1⟩
  have g1 : w1.cell? ⟨w.heap.size, 0, none⟩ = some (.bool s) := hup1.keep e1a
  have g2 : w1.cell? ⟨w.heap.size, 1, none⟩ = some (.slice A 0 c) := hup1.keep e1b
  go_wp2
  go_ret
  exact ⟨rfl, hup0.trans hup1⟩

set_option maxRecDepth 100000 in
set_option maxHeartbeats 1000000 in
theorem sign_neg (B : Nat) (v : Value) (x : Int) (w : World) (hv : IsInt B w v x) (hx : x.natAbs < top300) (hs : x < 0) : Calls Tryz.prog 45 #[v] w fun e w' => e = .returned (.int .i64 (-1)) ∧ Up w w' := by
  obtain ⟨s, A, n, c, rfl, Hs, Hn, hl, hc, _⟩ := hv
  obtain rfl : s = true := by rw [Hs.out]; simpa using hs
  have hn0 : n ≠ 0 := by rw [Hn.out]; intro e; rw [lim_len_zero] at e; omega
  have hnb : ((n : Int) == 0) = false := by rw [beq_eq_false_iff_ne]; omega
  obtain ⟨w0, hw0⟩ : ∃ w0, w0 = (w.alloc (.cells #[.bool true, .slice A n c] 24)) := ⟨_, rfl⟩
  have hb1 : Bk w0 (w.heap.size) 24 #[.bool true, .slice A n c] := by
    have := Bk.new w 24 #[.bool true, .slice A n c]
    rw [hw0]; simpa using this
  have hup0 : Up w w0 := by rw [hw0]; exact (Up.refl w).alloc _
  have hsz0 : w.heap.size + 1 ≤ w0.heap.size := by rw [hw0]; simp
  have Hw0 := hide hw0
  clear hw0
  have e1a := hb1.cell (i := 0) rfl
  have e1b := hb1.cell (i := 1) rfl
  go_enter Tryz.func45, Tryz.ntmps45
  go_wp2_with fail
  rw [← Hw0.out]
  refine (validI_any 0 _ x w0 ⟨true, A, n, c, rfl, Hs, Hn, hl.up hup0, hc, fun _ _ => Nat.zero_le _⟩ hx).mono ?_
  rintro e w1 ⟨rfl, hup1⟩
  have g1 : w1.cell? ⟨w.heap.size, 0, none⟩ = some (.bool true) := hup1.keep e1a
  have g2 : w1.cell? ⟨w.heap.size, 1, none⟩ = some (.slice A n c) := hup1.keep e1b
  go_wp2
  go_ret
  exact ⟨rfl, hup0.trans hup1⟩

set_option maxRecDepth 100000 in
set_option maxHeartbeats 1000000 in
theorem sign_pos (B : Nat) (v : Value) (x : Int) (w : World) (hv : IsInt B w v x) (hx : x.natAbs < top300) (hs : 0 < x) : Calls Tryz.prog 45 #[v] w fun e w' => e = .returned (.int .i64 (1)) ∧ Up w w' := by
  obtain ⟨s, A, n, c, rfl, Hs, Hn, hl, hc, _⟩ := hv
  obtain rfl : s = false := by rw [Hs.out]; simp; omega
  have hn0 : n ≠ 0 := by rw [Hn.out]; intro e; rw [lim_len_zero] at e; omega
  have hnb : ((n : Int) == 0) = false := by rw [beq_eq_false_iff_ne]; omega
  obtain ⟨w0, hw0⟩ : ∃ w0, w0 = (w.alloc (.cells #[.bool false, .slice A n c] 24)) := ⟨_, rfl⟩
  have hb1 : Bk w0 (w.heap.size) 24 #[.bool false, .slice A n c] := by
    have := Bk.new w 24 #[.bool false, .slice A n c]
    rw [hw0]; simpa using this
  have hup0 : Up w w0 := by rw [hw0]; exact (Up.refl w).alloc _
  have hsz0 : w.heap.size + 1 ≤ w0.heap.size := by rw [hw0]; simp
  have Hw0 := hide hw0
  clear hw0
  have e1a := hb1.cell (i := 0) rfl
  have e1b := hb1.cell (i := 1) rfl
  go_enter Tryz.func45, Tryz.ntmps45
  go_wp2_with fail
  rw [← Hw0.out]
  refine (validI_any 0 _ x w0 ⟨false, A, n, c, rfl, Hs, Hn, hl.up hup0, hc, fun _ _ => Nat.zero_le _⟩ hx).mono ?_
  rintro e w1 ⟨rfl, hup1⟩
  have g1 : w1.cell? ⟨w.heap.size, 0, none⟩ = some (.bool false) := hup1.keep e1a
  have g2 : w1.cell? ⟨w.heap.size, 1, none⟩ = some (.slice A n c) := hup1.keep e1b
  go_wp2
  go_ret
  exact ⟨rfl, hup0.trans hup1⟩

theorem signI_any (B : Nat) (v : Value) (x : Int) (w : World) (hv : IsInt B w v x) (hx : x.natAbs < top300) : Calls Tryz.prog 45 #[v] w fun e w' => e = .returned (.int .i64 x.sign) ∧ Up w w' := by
  rcases Int.lt_trichotomy x 0 with h | h | h
  · rw [Int.sign_eq_neg_one_of_neg h]; exact sign_neg B v x w hv hx h
  · rw [show x.sign = 0 by rw [h]; rfl]; exact sign_zero B v x w hv hx h
  · rw [Int.sign_eq_one_of_pos h]; exact sign_pos B v x w hv hx h

set_option maxRecDepth 100000 in
set_option maxHeartbeats 1000000 in
theorem cmp_nn (B B' : Nat) (v v' : Value) (x y : Int) (w : World) (hv : IsInt B w v x) (hv' : IsInt B' w v' y) (hx : x.natAbs < top300) (hy : y.natAbs < top300) (hsx : x < 0) (hsy : y < 0) : Calls Tryz.prog 60 #[v, v'] w fun e w' => e = .returned (.int .i64 (cmpZ x y)) ∧ Up w w' := by
  obtain ⟨s, A, n, c, rfl, Hs, Hn, hl, hc, hN⟩ := hv
  obtain ⟨t, C, m, d, rfl, Ht, Hm, hm, hd, hN'⟩ := hv'
  obtain rfl : s = true := by rw [Hs.out]; simp; omega
  obtain rfl : t = true := by rw [Ht.out]; simp; omega
  have hn34 : n ≤ 34 := by rw [Hn.out]; exact len_of_top hx
  have hm34 : m ≤ 34 := by rw [Hm.out]; exact len_of_top hy
  have HC : Hid (cmpZ x y = cmpN y.natAbs x.natAbs) := by show _ = _; unfold cmpZ cmpN; (repeat' split) <;> omega
  clear hsx hsy
  obtain ⟨w0, hw0⟩ : ∃ w0, w0 = ((w.alloc (.cells #[.bool true, .slice A n c] 24)).alloc (.cells #[.bool true, .slice C m d] 24)) := ⟨_, rfl⟩
  have hb1 : Bk w0 (w.heap.size) 24 #[.bool true, .slice A n c] := by
    have := (Bk.new w 24 #[.bool true, .slice A n c]).alloc (.cells #[.bool true, .slice C m d] 24)
    rw [hw0]; simpa using this
  have hb2 : Bk w0 (w.heap.size + 1) 24 #[.bool true, .slice C m d] := by
    have := Bk.new (w.alloc (.cells #[.bool true, .slice A n c] 24)) 24 #[.bool true, .slice C m d]
    rw [hw0]; simpa using this
  have hup0 : Up w w0 := by rw [hw0]; exact ((Up.refl w).alloc _).alloc _
  have hsz0 : w.heap.size + 2 ≤ w0.heap.size := by rw [hw0]; simp
  have Hw0 := hide hw0
  clear hw0
  have e1a := hb1.cell (i := 0) rfl
  have e1b := hb1.cell (i := 1) rfl
  have e2a := hb2.cell (i := 0) rfl
  have e2b := hb2.cell (i := 1) rfl
  go_enter Tryz.func60, Tryz.ntmps60
  go_wp2_with fail
  rw [← Hw0.out]
  refine (both_any B B' _ _ x y w0 ⟨true, A, n, c, rfl, Hs, Hn, hl.up hup0, hc, hN⟩ ⟨true, C, m, d, rfl, Ht, Hm, hm.up hup0, hd, hN'⟩ hx hy).mono ?_
  rintro e w1 ⟨rfl, hup1⟩
  have g1 := hup1.keep e1a
  have g2 := hup1.keep e1b
  have g3 := hup1.keep e2a
  have g4 := hup1.keep e2b
  go_wp2_with fail
  refine (compare_any C A d c y.natAbs x.natAbs _ (hm.up (hup0.trans hup1)) (hl.up (hup0.trans hup1)) m n Hm Hn (by omega) (by omega)).mono ?_
  rintro e w2 ⟨rfl, q, rfl⟩
  go_wp2
  go_ret
  exact ⟨by rw [HC.out]; rfl, (hup0.trans hup1).drewN q⟩

set_option maxRecDepth 100000 in
set_option maxHeartbeats 1000000 in
theorem cmp_np (B B' : Nat) (v v' : Value) (x y : Int) (w : World) (hv : IsInt B w v x) (hv' : IsInt B' w v' y) (hx : x.natAbs < top300) (hy : y.natAbs < top300) (hsx : x < 0) (hsy : ¬ y < 0) : Calls Tryz.prog 60 #[v, v'] w fun e w' => e = .returned (.int .i64 (cmpZ x y)) ∧ Up w w' := by
  obtain ⟨s, A, n, c, rfl, Hs, Hn, hl, hc, hN⟩ := hv
  obtain ⟨t, C, m, d, rfl, Ht, Hm, hm, hd, hN'⟩ := hv'
  obtain rfl : s = true := by rw [Hs.out]; simp; omega
  obtain rfl : t = false := by rw [Ht.out]; simp; omega
  have hn34 : n ≤ 34 := by rw [Hn.out]; exact len_of_top hx
  have hm34 : m ≤ 34 := by rw [Hm.out]; exact len_of_top hy
  have HC : Hid (cmpZ x y = -1) := by show _ = _; unfold cmpZ; (repeat' split) <;> omega
  clear hsx hsy
  obtain ⟨w0, hw0⟩ : ∃ w0, w0 = ((w.alloc (.cells #[.bool true, .slice A n c] 24)).alloc (.cells #[.bool false, .slice C m d] 24)) := ⟨_, rfl⟩
  have hb1 : Bk w0 (w.heap.size) 24 #[.bool true, .slice A n c] := by
    have := (Bk.new w 24 #[.bool true, .slice A n c]).alloc (.cells #[.bool false, .slice C m d] 24)
    rw [hw0]; simpa using this
  have hb2 : Bk w0 (w.heap.size + 1) 24 #[.bool false, .slice C m d] := by
    have := Bk.new (w.alloc (.cells #[.bool true, .slice A n c] 24)) 24 #[.bool false, .slice C m d]
    rw [hw0]; simpa using this
  have hup0 : Up w w0 := by rw [hw0]; exact ((Up.refl w).alloc _).alloc _
  have hsz0 : w.heap.size + 2 ≤ w0.heap.size := by rw [hw0]; simp
  have Hw0 := hide hw0
  clear hw0
  have e1a := hb1.cell (i := 0) rfl
  have e1b := hb1.cell (i := 1) rfl
  have e2a := hb2.cell (i := 0) rfl
  have e2b := hb2.cell (i := 1) rfl
  go_enter Tryz.func60, Tryz.ntmps60
  go_wp2_with fail
  rw [← Hw0.out]
  refine (both_any B B' _ _ x y w0 ⟨true, A, n, c, rfl, Hs, Hn, hl.up hup0, hc, hN⟩ ⟨false, C, m, d, rfl, Ht, Hm, hm.up hup0, hd, hN'⟩ hx hy).mono ?_
  rintro e w1 ⟨rfl, hup1⟩
  have g1 := hup1.keep e1a
  have g2 := hup1.keep e1b
  have g3 := hup1.keep e2a
  have g4 := hup1.keep e2b
  go_wp2_with fail
  go_ret
  exact ⟨by rw [HC.out]; rfl, hup0.trans hup1⟩

set_option maxRecDepth 100000 in
set_option maxHeartbeats 1000000 in
theorem cmp_pn (B B' : Nat) (v v' : Value) (x y : Int) (w : World) (hv : IsInt B w v x) (hv' : IsInt B' w v' y) (hx : x.natAbs < top300) (hy : y.natAbs < top300) (hsx : ¬ x < 0) (hsy : y < 0) : Calls Tryz.prog 60 #[v, v'] w fun e w' => e = .returned (.int .i64 (cmpZ x y)) ∧ Up w w' := by
  obtain ⟨s, A, n, c, rfl, Hs, Hn, hl, hc, hN⟩ := hv
  obtain ⟨t, C, m, d, rfl, Ht, Hm, hm, hd, hN'⟩ := hv'
  obtain rfl : s = false := by rw [Hs.out]; simp; omega
  obtain rfl : t = true := by rw [Ht.out]; simp; omega
  have hn34 : n ≤ 34 := by rw [Hn.out]; exact len_of_top hx
  have hm34 : m ≤ 34 := by rw [Hm.out]; exact len_of_top hy
  have HC : Hid (cmpZ x y = 1) := by show _ = _; unfold cmpZ; (repeat' split) <;> omega
  clear hsx hsy
  obtain ⟨w0, hw0⟩ : ∃ w0, w0 = ((w.alloc (.cells #[.bool false, .slice A n c] 24)).alloc (.cells #[.bool true, .slice C m d] 24)) := ⟨_, rfl⟩
  have hb1 : Bk w0 (w.heap.size) 24 #[.bool false, .slice A n c] := by
    have := (Bk.new w 24 #[.bool false, .slice A n c]).alloc (.cells #[.bool true, .slice C m d] 24)
    rw [hw0]; simpa using this
  have hb2 : Bk w0 (w.heap.size + 1) 24 #[.bool true, .slice C m d] := by
    have := Bk.new (w.alloc (.cells #[.bool false, .slice A n c] 24)) 24 #[.bool true, .slice C m d]
    rw [hw0]; simpa using this
  have hup0 : Up w w0 := by rw [hw0]; exact ((Up.refl w).alloc _).alloc _
  have hsz0 : w.heap.size + 2 ≤ w0.heap.size := by rw [hw0]; simp
  have Hw0 := hide hw0
  clear hw0
  have e1a := hb1.cell (i := 0) rfl
  have e1b := hb1.cell (i := 1) rfl
  have e2a := hb2.cell (i := 0) rfl
  have e2b := hb2.cell (i := 1) rfl
  go_enter Tryz.func60, Tryz.ntmps60
  go_wp2_with fail
  rw [← Hw0.out]
  refine (both_any B B' _ _ x y w0 ⟨false, A, n, c, rfl, Hs, Hn, hl.up hup0, hc, hN⟩ ⟨true, C, m, d, rfl, Ht, Hm, hm.up hup0, hd, hN'⟩ hx hy).mono ?_
  rintro e w1 ⟨rfl, hup1⟩
  have g1 := hup1.keep e1a
  have g2 := hup1.keep e1b
  have g3 := hup1.keep e2a
  have g4 := hup1.keep e2b
  go_wp2_with fail
  go_ret
  exact ⟨by rw [HC.out]; rfl, hup0.trans hup1⟩

set_option maxRecDepth 100000 in
set_option maxHeartbeats 1000000 in
theorem cmp_pp (B B' : Nat) (v v' : Value) (x y : Int) (w : World) (hv : IsInt B w v x) (hv' : IsInt B' w v' y) (hx : x.natAbs < top300) (hy : y.natAbs < top300) (hsx : ¬ x < 0) (hsy : ¬ y < 0) : Calls Tryz.prog 60 #[v, v'] w fun e w' => e = .returned (.int .i64 (cmpZ x y)) ∧ Up w w' := by
  obtain ⟨s, A, n, c, rfl, Hs, Hn, hl, hc, hN⟩ := hv
  obtain ⟨t, C, m, d, rfl, Ht, Hm, hm, hd, hN'⟩ := hv'
  obtain rfl : s = false := by rw [Hs.out]; simp; omega
  obtain rfl : t = false := by rw [Ht.out]; simp; omega
  have hn34 : n ≤ 34 := by rw [Hn.out]; exact len_of_top hx
  have hm34 : m ≤ 34 := by rw [Hm.out]; exact len_of_top hy
  have HC : Hid (cmpZ x y = cmpN x.natAbs y.natAbs) := by show _ = _; unfold cmpZ cmpN; (repeat' split) <;> omega
  clear hsx hsy
  obtain ⟨w0, hw0⟩ : ∃ w0, w0 = ((w.alloc (.cells #[.bool false, .slice A n c] 24)).alloc (.cells #[.bool false, .slice C m d] 24)) := ⟨_, rfl⟩
  have hb1 : Bk w0 (w.heap.size) 24 #[.bool false, .slice A n c] := by
    have := (Bk.new w 24 #[.bool false, .slice A n c]).alloc (.cells #[.bool false, .slice C m d] 24)
    rw [hw0]; simpa using this
  have hb2 : Bk w0 (w.heap.size + 1) 24 #[.bool false, .slice C m d] := by
    have := Bk.new (w.alloc (.cells #[.bool false, .slice A n c] 24)) 24 #[.bool false, .slice C m d]
    rw [hw0]; simpa using this
  have hup0 : Up w w0 := by rw [hw0]; exact ((Up.refl w).alloc _).alloc _
  have hsz0 : w.heap.size + 2 ≤ w0.heap.size := by rw [hw0]; simp
  have Hw0 := hide hw0
  clear hw0
  have e1a := hb1.cell (i := 0) rfl
  have e1b := hb1.cell (i := 1) rfl
  have e2a := hb2.cell (i := 0) rfl
  have e2b := hb2.cell (i := 1) rfl
  go_enter Tryz.func60, Tryz.ntmps60
  go_wp2_with fail
  rw [← Hw0.out]
  refine (both_any B B' _ _ x y w0 ⟨false, A, n, c, rfl, Hs, Hn, hl.up hup0, hc, hN⟩ ⟨false, C, m, d, rfl, Ht, Hm, hm.up hup0, hd, hN'⟩ hx hy).mono ?_
  rintro e w1 ⟨rfl, hup1⟩
  have g1 := hup1.keep e1a
  have g2 := hup1.keep e1b
  have g3 := hup1.keep e2a
  have g4 := hup1.keep e2b
  go_wp2_with fail
  refine (compare_any A C c d x.natAbs y.natAbs _ (hl.up (hup0.trans hup1)) (hm.up (hup0.trans hup1)) n m Hn Hm (by omega) (by omega)).mono ?_
  rintro e w2 ⟨rfl, q, rfl⟩
  go_wp2
  go_ret
  exact ⟨by rw [HC.out]; rfl, (hup0.trans hup1).drewN q⟩

theorem cmpI_any (B B' : Nat) (v v' : Value) (x y : Int) (w : World) (hv : IsInt B w v x) (hv' : IsInt B' w v' y) (hx : x.natAbs < top300) (hy : y.natAbs < top300) : Calls Tryz.prog 60 #[v, v'] w fun e w' => e = .returned (.int .i64 (cmpZ x y)) ∧ Up w w' := by
  by_cases hsx : x < 0 <;> by_cases hsy : y < 0
  · exact cmp_nn B B' v v' x y w hv hv' hx hy hsx hsy
  · exact cmp_np B B' v v' x y w hv hv' hx hy hsx hsy
  · exact cmp_pn B B' v v' x y w hv hv' hx hy hsx hsy
  · exact cmp_pp B B' v v' x y w hv hv' hx hy hsx hsy
end Go.Proofs.YtldifgfpecicnaaGreatDoor
/- Raw integers that are not valid: the reference's Valid, the program's Sign, bothValid, Cmp. -/
namespace Go.Proofs.YtldifgfpecicnaaGreatDoor
open Go.RowKit

/-- What is known of a raw integer in memory. -/
def Raw (w : World) (v : Value) (s : Bool) (l : List Nat) : Prop := ∃ A n c, v = .agg #[.bool s, .slice A n c] ∧ Lim w A l ∧ Hid (n = l.length) ∧ n ≤ c
theorem Raw.up {w w' : World} {v : Value} {s : Bool} {l : List Nat} (h : Raw w v s l) (hu : Up w w') : Raw w' v s l := by
  obtain ⟨A, n, c, rfl, h1, h2, h3⟩ := h
  exact ⟨A, n, c, rfl, h1.up hu, h2, h3⟩
/-- A raw integer that is valid is an integer. -/
theorem raw_int {s : Bool} {l : List Nat} (h : rawValid s l = true) : ∃ z : Int, z.natAbs < top300 ∧ s = decide (z < 0) ∧ l = lim z.natAbs := by
  unfold rawValid at h
  by_cases h0 : l.length = 0
  · rw [if_pos h0] at h
    rw [List.length_eq_zero_iff] at h0
    refine ⟨0, by have := bas_pos 33; simp [top300]; omega, by simpa using h, by rw [h0]; simp [lim_zero]⟩
  · rw [if_neg h0] at h
    simp only [Bool.and_eq_true, decide_eq_true_eq] at h
    obtain ⟨⟨h1, h2⟩, h3⟩ := h
    have hd := digB_iff.1 h3
    have hv : lim (val l) = l := lim_val hd fun x hx => by
      rw [getLast_getD (fun e => h0 (by rw [e]; rfl))] at hx
      have := Option.some.inj hx
      rw [← this]; exact h1
    have h4 := (digs_raw hd h1).1 h2
    have h5 : val l ≠ 0 := fun e => h0 (by rw [← hv, e, lim_zero]; rfl)
    exact ⟨sgn s (val l), by rw [sgn_abs]; exact h4, (sgn_neg h5).symm, by rw [sgn_abs]; exact hv.symm⟩
theorem Raw.int {w : World} {v : Value} {s : Bool} {l : List Nat} (h : Raw w v s l) (hr : rawValid s l = true) : ∃ z : Int, z.natAbs < top300 ∧ IsInt 0 w v z := by
  obtain ⟨A, n, c, rfl, h1, h2, h3⟩ := h
  obtain ⟨z, hz, hs, hl⟩ := raw_int hr
  subst hl
  exact ⟨z, hz, s, A, n, c, rfl, hs, h2, h1, h3, fun _ _ => Nat.zero_le _⟩
theorem digB_all {l : List Nat} {n : Nat} (hn : n = l.length) : digB (l.take n) = digB l := by rw [hn, List.take_length]

set_option maxRecDepth 100000 in
set_option maxHeartbeats 2000000 in
theorem rvalid_raw (s : Bool) (A : Option Addr) (c n : Nat) (l : List Nat) (w : World) (h : Lim w A l) (hw : W32 l) (Hn : Hid (n = l.length)) (hn : n ≤ 1000000) :
    Calls Tryz.prog 47 #[.agg #[.bool s, .slice A n c]] w fun e w' => e = .returned (.bool (rawValid s l)) ∧ Up w w' := by
  obtain ⟨w0, hw0⟩ : ∃ w0, w0 = (w.alloc (.cells #[.bool s, .slice A n c] 24)) := ⟨_, rfl⟩
  have hb1 : Bk w0 (w.heap.size) 24 #[.bool s, .slice A n c] := by
    have := Bk.new w 24 #[.bool s, .slice A n c]
    rw [hw0]; simpa using this
  have hup0 : Up w w0 := by rw [hw0]; exact (Up.refl w).alloc _
  have hsz0 : w.heap.size + 1 ≤ w0.heap.size := by rw [hw0]; simp
  have Hw0 := hide hw0
  clear hw0
  have e1a := hb1.cell (i := 0) rfl
  have e1b := hb1.cell (i := 1) rfl
  have hl0 := h.up hup0
  go_enter Tryz.func47, Tryz.ntmps47
  go_wp2
  rw [← Hw0.out]
  go_loop [3] (fun iv => ∃ k : Nat, iv = .int .i64 k ∧ k ≤ n ∧ digB (l.take k) = true) (fun iv => n - (intOf iv).toNat)
  case atStart => exact ⟨0, rfl, by omega, rfl⟩
  case round =>
    obtain ⟨k, rfl, hk, hd⟩ := hrel
    have HD := hide hd
    clear hd
    by_cases hgo : k < n
    · obtain ⟨ad, rfl, hb, hcell⟩ := hl0.at_ (k := k) (by rw [← Hn.out]; exact hgo)
      have hx := W32.getD hw k
      obtain ⟨x, Hx⟩ : ∃ x, Hid (x = l.getD k 0) := ⟨_, rfl⟩
      rw [← Hx.out] at hx hcell
      by_cases hwide : 1000000000 ≤ x
      · have HR : Hid (rawValid s l = false) := by
          have h1 := digB_of_get (l := l) (k := k) (by rw [← Hn.out]; exact hgo) (by rw [← Hx.out]; omega)
          show _ = _
          unfold rawValid
          rw [if_neg (by rw [← Hn.out]; omega), h1]; simp
        have hwideI : decide ((1000000000 : Int) ≤ (x : Int)) = true := by simp; omega
        clear hwide
        go_wp2
        go_ret
        exact ⟨by rw [HR.out]; rfl, hup0⟩
      · have HD2 : Hid (digB (l.take (k + 1)) = true) := by
          show _ = _
          rw [digB_take_succ l (by rw [← Hn.out]; exact hgo), HD.out, ← Hx.out]; simp; omega
        have hwideI : decide ((1000000000 : Int) ≤ (x : Int)) = false := by simp; omega
        clear hwide
        go_wp2
        go_round
        case rel => exact ⟨k + 1, by go_num, by omega, HD2.out⟩
        case measure => simp [intOf]; omega
    · obtain rfl : k = n := by omega
      have HDl : Hid (digB l = true) := by show _ = _; rw [← digB_all Hn.out]; exact HD.out
      clear HD hgo hk
      by_cases hz : k = 0
      · subst hz
        have HR : Hid (rawValid s l = !s) := by show _ = _; unfold rawValid; rw [if_pos (by rw [← Hn.out])]
        go_wp2
        go_ret
        exact ⟨by rw [HR.out]; rfl, hup0⟩
      · obtain ⟨m, rfl⟩ : ∃ m, k = m + 1 := ⟨k - 1, by omega⟩
        obtain ⟨ad, rfl, hb, hcell⟩ := hl0.at_ (k := m) (by rw [← Hn.out]; omega)
        have hx := W32.getD hw m
        have HR : Hid (rawValid s l = (decide (l.getD m 0 ≠ 0) && decide (digs l ≤ 300))) := by
          show _ = _
          unfold rawValid
          rw [if_neg (by rw [← Hn.out]; omega), HDl.out, ← Hn.out]; simp
        have hdg := digs_le _ hw
        rw [← Hn.out] at hdg
        obtain ⟨d, Hd⟩ : ∃ d, Hid (d = digs l) := ⟨_, rfl⟩
        obtain ⟨x, Hx⟩ : ∃ x, Hid (x = l.getD m 0) := ⟨_, rfl⟩
        rw [← Hx.out] at hx hcell HR
        rw [← Hd.out] at hdg HR
        by_cases hx0 : x = 0
        · subst hx0
          go_wp2
          go_ret
          exact ⟨by rw [HR.out]; rfl, hup0⟩
        · have hxb : ((x : Int) != 0) = true := by rw [bne_iff_ne]; omega
          have HX0 : Hid (decide (x ≠ 0) = true) := by show _ = _; simp [hx0]
          go_wp2_with fail
          refine (rdigits_any (some ad) c l _ hl0 hw (m + 1) Hn hn).mono ?_
          rintro e w1 ⟨rfl, rfl⟩
          rw [← Hd.out]
          by_cases h300 : d ≤ 300
          all_goals
            go_wp2
            go_ret
            exact ⟨by rw [HR.out, HX0.out]; simp; omega, hup0⟩

set_option maxRecDepth 100000 in
set_option maxHeartbeats 1000000 in
theorem sign_bad (s : Bool) (A : Option Addr) (c n : Nat) (l : List Nat) (w : World) (h : Lim w A l) (hw : W32 l) (Hn : Hid (n = l.length)) (hn : n ≤ 1000000) (hbad : Hid (rawValid s l = false)) :
    Calls Tryz.prog 45 #[.agg #[.bool s, .slice A n c]] w fun e w' => e = .returned (.int .i64 0) ∧ Up w w' := by
  obtain ⟨w0, hw0⟩ : ∃ w0, w0 = (w.alloc (.cells #[.bool s, .slice A n c] 24)) := ⟨_, rfl⟩
  have hb1 : Bk w0 (w.heap.size) 24 #[.bool s, .slice A n c] := by
    have := Bk.new w 24 #[.bool s, .slice A n c]
    rw [hw0]; simpa using this
  have hup0 : Up w w0 := by rw [hw0]; exact (Up.refl w).alloc _
  have hsz0 : w.heap.size + 1 ≤ w0.heap.size := by rw [hw0]; simp
  have Hw0 := hide hw0
  clear hw0
  have e1a := hb1.cell (i := 0) rfl
  have e1b := hb1.cell (i := 1) rfl
  go_enter Tryz.func45, Tryz.ntmps45
  go_wp2_with fail
  rw [← Hw0.out]
  refine (valid_any s A c n l _ (h.up hup0) hw Hn hn).mono ?_
  rintro e w1 ⟨rfl, hup1⟩
  rw [hbad.out]
  go_wp2
  go_ret
  exact ⟨rfl, hup0.trans hup1⟩

set_option maxRecDepth 100000 in
set_option maxHeartbeats 1000000 in
theorem both_bad (s t : Bool) (A C : Option Addr) (c d n m : Nat) (l k : List Nat) (w : World) (h : Lim w A l) (h' : Lim w C k) (hw : W32 l) (hw' : W32 k) (Hn : Hid (n = l.length)) (Hm : Hid (m = k.length)) (hn : n ≤ 1000000) (hm : m ≤ 1000000) (hbad : Hid (rawValid s l = false ∨ rawValid t k = false)) :
    Calls Tryz.prog 88 #[.agg #[.bool s, .slice A n c], .agg #[.bool t, .slice C m d]] w fun e w' => e = .returned (.bool false) ∧ Up w w' := by
  rcases Bool.eq_false_or_eq_true (rawValid s l) with hr | hr
  · have HR := hide hr
    have HR2 : Hid (rawValid t k = false) := by
      rcases hbad.out with e | e
      · rw [hr] at e; cases e
      · exact e
    clear hr
    obtain ⟨w0, hw0⟩ : ∃ w0, w0 = ((w.alloc (.cells #[.bool s, .slice A n c] 24)).alloc (.cells #[.bool t, .slice C m d] 24)) := ⟨_, rfl⟩
    have hb1 : Bk w0 (w.heap.size) 24 #[.bool s, .slice A n c] := by
      have := (Bk.new w 24 #[.bool s, .slice A n c]).alloc (.cells #[.bool t, .slice C m d] 24)
      rw [hw0]; simpa using this
    have hb2 : Bk w0 (w.heap.size + 1) 24 #[.bool t, .slice C m d] := by
      have := Bk.new (w.alloc (.cells #[.bool s, .slice A n c] 24)) 24 #[.bool t, .slice C m d]
      rw [hw0]; simpa using this
    have hup0 : Up w w0 := by rw [hw0]; exact ((Up.refl w).alloc _).alloc _
    have hsz0 : w.heap.size + 2 ≤ w0.heap.size := by rw [hw0]; simp
    have Hw0 := hide hw0
    clear hw0
    have e1a := hb1.cell (i := 0) rfl
    have e1b := hb1.cell (i := 1) rfl
    have e2a := hb2.cell (i := 0) rfl
    have e2b := hb2.cell (i := 1) rfl
    go_enter Tryz.func88, Tryz.ntmps88
    go_wp2_with fail
    rw [← Hw0.out]
    refine (valid_any s A c n l _ (h.up hup0) hw Hn hn).mono ?_
    rintro e w1 ⟨rfl, hup1⟩
    rw [HR.out]
    have g1 := hup1.keep e2a
    have g2 := hup1.keep e2b
    go_wp2_with fail
    refine (valid_any t C d m k _ (h'.up (hup0.trans hup1)) hw' Hm hm).mono ?_
    rintro e w2 ⟨rfl, hup2⟩
    rw [HR2.out]
    go_wp2
    go_ret
    exact ⟨rfl, (hup0.trans hup1).trans hup2⟩
  · have HR := hide hr
    clear hr
    obtain ⟨w0, hw0⟩ : ∃ w0, w0 = ((w.alloc (.cells #[.bool s, .slice A n c] 24)).alloc (.cells #[.bool t, .slice C m d] 24)) := ⟨_, rfl⟩
    have hb1 : Bk w0 (w.heap.size) 24 #[.bool s, .slice A n c] := by
      have := (Bk.new w 24 #[.bool s, .slice A n c]).alloc (.cells #[.bool t, .slice C m d] 24)
      rw [hw0]; simpa using this
    have hb2 : Bk w0 (w.heap.size + 1) 24 #[.bool t, .slice C m d] := by
      have := Bk.new (w.alloc (.cells #[.bool s, .slice A n c] 24)) 24 #[.bool t, .slice C m d]
      rw [hw0]; simpa using this
    have hup0 : Up w w0 := by rw [hw0]; exact ((Up.refl w).alloc _).alloc _
    have hsz0 : w.heap.size + 2 ≤ w0.heap.size := by rw [hw0]; simp
    have Hw0 := hide hw0
    clear hw0
    have e1a := hb1.cell (i := 0) rfl
    have e1b := hb1.cell (i := 1) rfl
    have e2a := hb2.cell (i := 0) rfl
    have e2b := hb2.cell (i := 1) rfl
    go_enter Tryz.func88, Tryz.ntmps88
    go_wp2_with fail
    rw [← Hw0.out]
    refine (valid_any s A c n l _ (h.up hup0) hw Hn hn).mono ?_
    rintro e w1 ⟨rfl, hup1⟩
    rw [HR.out]
    go_wp2
    go_ret
    exact ⟨rfl, hup0.trans hup1⟩

set_option maxRecDepth 100000 in
set_option maxHeartbeats 1000000 in
theorem cmp_bad (s t : Bool) (A C : Option Addr) (c d n m : Nat) (l k : List Nat) (w : World) (h : Lim w A l) (h' : Lim w C k) (hw : W32 l) (hw' : W32 k) (Hn : Hid (n = l.length)) (Hm : Hid (m = k.length)) (hn : n ≤ 1000000) (hm : m ≤ 1000000) (hbad : Hid (rawValid s l = false ∨ rawValid t k = false)) :
    Calls Tryz.prog 60 #[.agg #[.bool s, .slice A n c], .agg #[.bool t, .slice C m d]] w fun e w' => e = .returned (.int .i64 0) ∧ Up w w' := by
  obtain ⟨w0, hw0⟩ : ∃ w0, w0 = ((w.alloc (.cells #[.bool s, .slice A n c] 24)).alloc (.cells #[.bool t, .slice C m d] 24)) := ⟨_, rfl⟩
  have hb1 : Bk w0 (w.heap.size) 24 #[.bool s, .slice A n c] := by
    have := (Bk.new w 24 #[.bool s, .slice A n c]).alloc (.cells #[.bool t, .slice C m d] 24)
    rw [hw0]; simpa using this
  have hb2 : Bk w0 (w.heap.size + 1) 24 #[.bool t, .slice C m d] := by
    have := Bk.new (w.alloc (.cells #[.bool s, .slice A n c] 24)) 24 #[.bool t, .slice C m d]
    rw [hw0]; simpa using this
  have hup0 : Up w w0 := by rw [hw0]; exact ((Up.refl w).alloc _).alloc _
  have hsz0 : w.heap.size + 2 ≤ w0.heap.size := by rw [hw0]; simp
  have Hw0 := hide hw0
  clear hw0
  have e1a := hb1.cell (i := 0) rfl
  have e1b := hb1.cell (i := 1) rfl
  have e2a := hb2.cell (i := 0) rfl
  have e2b := hb2.cell (i := 1) rfl
  go_enter Tryz.func60, Tryz.ntmps60
  go_wp2_with fail
  rw [← Hw0.out]
  refine (both_bad s t A C c d n m l k _ (h.up hup0) (h'.up hup0) hw hw' Hn Hm hn hm hbad).mono ?_
  rintro e w1 ⟨rfl, hup1⟩
  go_wp2
  go_ret
  exact ⟨rfl, hup0.trans hup1⟩
end Go.Proofs.YtldifgfpecicnaaGreatDoor
/- The operations at arguments that are not both valid: zero, and the error ErrInvalid. -/
namespace Go.Proofs.YtldifgfpecicnaaGreatDoor
open Go.RowKit

/-- Two raw integers in memory, not both valid. -/
def Bad2 (w : World) (v v' : Value) : Prop := ∃ s l t k, Raw w v s l ∧ Raw w v' t k ∧ W32 l ∧ W32 k ∧ l.length ≤ 60 ∧ k.length ≤ 60 ∧ Hid (rawValid s l = false ∨ rawValid t k = false)
def Bad1 (w : World) (v : Value) : Prop := ∃ s l, Raw w v s l ∧ W32 l ∧ l.length ≤ 60 ∧ Hid (rawValid s l = false)
theorem Bad2.up {w w' : World} {v v' : Value} (h : Bad2 w v v') (hu : Up w w') : Bad2 w' v v' := by
  obtain ⟨s, l, t, k, h1, h2, h3⟩ := h
  exact ⟨s, l, t, k, h1.up hu, h2.up hu, h3⟩
theorem Bad1.up {w w' : World} {v : Value} (h : Bad1 w v) (hu : Up w w') : Bad1 w' v := by
  obtain ⟨s, l, h1, h3⟩ := h
  exact ⟨s, l, h1.up hu, h3⟩
def RetBad (w : World) (e : Ending) (w' : World) : Prop := e = .returned (.tuple #[.agg #[.bool false, .slice none 0 0], .int .i64 1]) ∧ Up w w'
set_option maxRecDepth 100000 in
set_option maxHeartbeats 4000000 in
theorem addBad (v v' : Value) (w : World) (hb : Bad2 w v v') : Calls Tryz.prog 91 #[v, v'] w (RetBad w) := by
  obtain ⟨s, l, t, k, ⟨A, n, c, rfl, hl, Hn, hc⟩, ⟨C, m, d, rfl, hm, Hm, hd⟩, hw1, hw2, hl60, hk60, hbad⟩ := hb
  have hn : n ≤ 1000000 := by rw [Hn.out]; omega
  have hm' : m ≤ 1000000 := by rw [Hm.out]; omega
  obtain ⟨w0, hw0⟩ : ∃ w0, w0 = (((w.alloc (.cells #[.bool s, .slice A n c] 24)).alloc (.cells #[.bool t, .slice C m d] 24)).alloc (.cells #[.bool false, .slice none 0 0] 24)) := ⟨_, rfl⟩
  have hb1 : Bk w0 (w.heap.size) 24 #[.bool s, .slice A n c] := by
    have := ((Bk.new w 24 #[.bool s, .slice A n c]).alloc (.cells #[.bool t, .slice C m d] 24)).alloc (.cells #[.bool false, .slice none 0 0] 24)
    rw [hw0]; simpa using this
  have hb2 : Bk w0 (w.heap.size + 1) 24 #[.bool t, .slice C m d] := by
    have := (Bk.new (w.alloc (.cells #[.bool s, .slice A n c] 24)) 24 #[.bool t, .slice C m d]).alloc (.cells #[.bool false, .slice none 0 0] 24)
    rw [hw0]; simpa using this
  have hb3 : Bk w0 (w.heap.size + 1 + 1) 24 #[.bool false, .slice none 0 0] := by
    have := Bk.new ((w.alloc (.cells #[.bool s, .slice A n c] 24)).alloc (.cells #[.bool t, .slice C m d] 24)) 24 #[.bool false, .slice none 0 0]
    rw [hw0]; simpa using this
  have hup0 : Up w w0 := by rw [hw0]; exact (((Up.refl w).alloc _).alloc _).alloc _
  have hsz0 : w.heap.size + 3 ≤ w0.heap.size := by rw [hw0]; simp
  have Hw0 := hide hw0
  clear hw0
  have e1a := hb1.cell (i := 0) rfl
  have e1b := hb1.cell (i := 1) rfl
  have e2a := hb2.cell (i := 0) rfl
  have e2b := hb2.cell (i := 1) rfl
  have e3a := hb3.cell (i := 0) rfl
  have e3b := hb3.cell (i := 1) rfl
  go_enter Tryz.func91, Tryz.ntmps91
  go_wp2_with fail
  rw [← Hw0.out]
  refine (both_bad s t A C c d n m l k w0 (hl.up hup0) (hm.up hup0) hw1 hw2 Hn Hm hn hm' hbad).mono ?_
  rintro e w1 ⟨rfl, hup1⟩
  have hb5 := hb3.up hup1
  have f1 := hb5.cell (i := 0) rfl
  have f2 := hb5.cell (i := 1) rfl
  have f3 := hb5.frozen 0
  have f4 := hb5.frozen 1
  have q := hb5.two (.bool false) (.slice none 0 0)
  go_wp2
  exact bodyPost_ret (v := .tuple #[.agg #[.bool false, .slice none 0 0], .int .i64 1]) (by simp [results, Tryz.results91, go_sem, q.1, q.2]) rfl ⟨rfl, (hup0.trans hup1).two (by omega) _ _⟩
set_option maxRecDepth 100000 in
set_option maxHeartbeats 4000000 in
theorem subBad (v v' : Value) (w : World) (hb : Bad2 w v v') : Calls Tryz.prog 63 #[v, v'] w (RetBad w) := by
  obtain ⟨s, l, t, k, ⟨A, n, c, rfl, hl, Hn, hc⟩, ⟨C, m, d, rfl, hm, Hm, hd⟩, hw1, hw2, hl60, hk60, hbad⟩ := hb
  have hn : n ≤ 1000000 := by rw [Hn.out]; omega
  have hm' : m ≤ 1000000 := by rw [Hm.out]; omega
  obtain ⟨w0, hw0⟩ : ∃ w0, w0 = (((w.alloc (.cells #[.bool s, .slice A n c] 24)).alloc (.cells #[.bool t, .slice C m d] 24)).alloc (.cells #[.bool false, .slice none 0 0] 24)) := ⟨_, rfl⟩
  have hb1 : Bk w0 (w.heap.size) 24 #[.bool s, .slice A n c] := by
    have := ((Bk.new w 24 #[.bool s, .slice A n c]).alloc (.cells #[.bool t, .slice C m d] 24)).alloc (.cells #[.bool false, .slice none 0 0] 24)
    rw [hw0]; simpa using this
  have hb2 : Bk w0 (w.heap.size + 1) 24 #[.bool t, .slice C m d] := by
    have := (Bk.new (w.alloc (.cells #[.bool s, .slice A n c] 24)) 24 #[.bool t, .slice C m d]).alloc (.cells #[.bool false, .slice none 0 0] 24)
    rw [hw0]; simpa using this
  have hb3 : Bk w0 (w.heap.size + 1 + 1) 24 #[.bool false, .slice none 0 0] := by
    have := Bk.new ((w.alloc (.cells #[.bool s, .slice A n c] 24)).alloc (.cells #[.bool t, .slice C m d] 24)) 24 #[.bool false, .slice none 0 0]
    rw [hw0]; simpa using this
  have hup0 : Up w w0 := by rw [hw0]; exact (((Up.refl w).alloc _).alloc _).alloc _
  have hsz0 : w.heap.size + 3 ≤ w0.heap.size := by rw [hw0]; simp
  have Hw0 := hide hw0
  clear hw0
  have e1a := hb1.cell (i := 0) rfl
  have e1b := hb1.cell (i := 1) rfl
  have e2a := hb2.cell (i := 0) rfl
  have e2b := hb2.cell (i := 1) rfl
  have e3a := hb3.cell (i := 0) rfl
  have e3b := hb3.cell (i := 1) rfl
  go_enter Tryz.func63, Tryz.ntmps63
  go_wp2_with fail
  rw [← Hw0.out]
  refine (both_bad s t A C c d n m l k w0 (hl.up hup0) (hm.up hup0) hw1 hw2 Hn Hm hn hm' hbad).mono ?_
  rintro e w1 ⟨rfl, hup1⟩
  have hb5 := hb3.up hup1
  have f1 := hb5.cell (i := 0) rfl
  have f2 := hb5.cell (i := 1) rfl
  have f3 := hb5.frozen 0
  have f4 := hb5.frozen 1
  have q := hb5.two (.bool false) (.slice none 0 0)
  go_wp2
  exact bodyPost_ret (v := .tuple #[.agg #[.bool false, .slice none 0 0], .int .i64 1]) (by simp [results, Tryz.results63, go_sem, q.1, q.2]) rfl ⟨rfl, (hup0.trans hup1).two (by omega) _ _⟩
set_option maxRecDepth 100000 in
set_option maxHeartbeats 4000000 in
theorem mulBad (v v' : Value) (w : World) (hb : Bad2 w v v') : Calls Tryz.prog 69 #[v, v'] w (RetBad w) := by
  obtain ⟨s, l, t, k, ⟨A, n, c, rfl, hl, Hn, hc⟩, ⟨C, m, d, rfl, hm, Hm, hd⟩, hw1, hw2, hl60, hk60, hbad⟩ := hb
  have hn : n ≤ 1000000 := by rw [Hn.out]; omega
  have hm' : m ≤ 1000000 := by rw [Hm.out]; omega
  obtain ⟨w0, hw0⟩ : ∃ w0, w0 = (((w.alloc (.cells #[.bool s, .slice A n c] 24)).alloc (.cells #[.bool t, .slice C m d] 24)).alloc (.cells #[.bool false, .slice none 0 0] 24)) := ⟨_, rfl⟩
  have hb1 : Bk w0 (w.heap.size) 24 #[.bool s, .slice A n c] := by
    have := ((Bk.new w 24 #[.bool s, .slice A n c]).alloc (.cells #[.bool t, .slice C m d] 24)).alloc (.cells #[.bool false, .slice none 0 0] 24)
    rw [hw0]; simpa using this
  have hb2 : Bk w0 (w.heap.size + 1) 24 #[.bool t, .slice C m d] := by
    have := (Bk.new (w.alloc (.cells #[.bool s, .slice A n c] 24)) 24 #[.bool t, .slice C m d]).alloc (.cells #[.bool false, .slice none 0 0] 24)
    rw [hw0]; simpa using this
  have hb3 : Bk w0 (w.heap.size + 1 + 1) 24 #[.bool false, .slice none 0 0] := by
    have := Bk.new ((w.alloc (.cells #[.bool s, .slice A n c] 24)).alloc (.cells #[.bool t, .slice C m d] 24)) 24 #[.bool false, .slice none 0 0]
    rw [hw0]; simpa using this
  have hup0 : Up w w0 := by rw [hw0]; exact (((Up.refl w).alloc _).alloc _).alloc _
  have hsz0 : w.heap.size + 3 ≤ w0.heap.size := by rw [hw0]; simp
  have Hw0 := hide hw0
  clear hw0
  have e1a := hb1.cell (i := 0) rfl
  have e1b := hb1.cell (i := 1) rfl
  have e2a := hb2.cell (i := 0) rfl
  have e2b := hb2.cell (i := 1) rfl
  have e3a := hb3.cell (i := 0) rfl
  have e3b := hb3.cell (i := 1) rfl
  go_enter Tryz.func69, Tryz.ntmps69
  go_wp2_with fail
  rw [← Hw0.out]
  refine (both_bad s t A C c d n m l k w0 (hl.up hup0) (hm.up hup0) hw1 hw2 Hn Hm hn hm' hbad).mono ?_
  rintro e w1 ⟨rfl, hup1⟩
  have hb5 := hb3.up hup1
  have f1 := hb5.cell (i := 0) rfl
  have f2 := hb5.cell (i := 1) rfl
  have f3 := hb5.frozen 0
  have f4 := hb5.frozen 1
  have q := hb5.two (.bool false) (.slice none 0 0)
  go_wp2
  exact bodyPost_ret (v := .tuple #[.agg #[.bool false, .slice none 0 0], .int .i64 1]) (by simp [results, Tryz.results69, go_sem, q.1, q.2]) rfl ⟨rfl, (hup0.trans hup1).two (by omega) _ _⟩
set_option maxRecDepth 100000 in
set_option maxHeartbeats 4000000 in
theorem gcdBad (v v' : Value) (w : World) (hb : Bad2 w v v') : Calls Tryz.prog 54 #[v, v'] w (RetBad w) := by
  obtain ⟨s, l, t, k, ⟨A, n, c, rfl, hl, Hn, hc⟩, ⟨C, m, d, rfl, hm, Hm, hd⟩, hw1, hw2, hl60, hk60, hbad⟩ := hb
  have hn : n ≤ 1000000 := by rw [Hn.out]; omega
  have hm' : m ≤ 1000000 := by rw [Hm.out]; omega
  obtain ⟨w0, hw0⟩ : ∃ w0, w0 = (((w.alloc (.cells #[.bool s, .slice A n c] 24)).alloc (.cells #[.bool t, .slice C m d] 24)).alloc (.cells #[.bool false, .slice none 0 0] 24)) := ⟨_, rfl⟩
  have hb1 : Bk w0 (w.heap.size) 24 #[.bool s, .slice A n c] := by
    have := ((Bk.new w 24 #[.bool s, .slice A n c]).alloc (.cells #[.bool t, .slice C m d] 24)).alloc (.cells #[.bool false, .slice none 0 0] 24)
    rw [hw0]; simpa using this
  have hb2 : Bk w0 (w.heap.size + 1) 24 #[.bool t, .slice C m d] := by
    have := (Bk.new (w.alloc (.cells #[.bool s, .slice A n c] 24)) 24 #[.bool t, .slice C m d]).alloc (.cells #[.bool false, .slice none 0 0] 24)
    rw [hw0]; simpa using this
  have hb3 : Bk w0 (w.heap.size + 1 + 1) 24 #[.bool false, .slice none 0 0] := by
    have := Bk.new ((w.alloc (.cells #[.bool s, .slice A n c] 24)).alloc (.cells #[.bool t, .slice C m d] 24)) 24 #[.bool false, .slice none 0 0]
    rw [hw0]; simpa using this
  have hup0 : Up w w0 := by rw [hw0]; exact (((Up.refl w).alloc _).alloc _).alloc _
  have hsz0 : w.heap.size + 3 ≤ w0.heap.size := by rw [hw0]; simp
  have Hw0 := hide hw0
  clear hw0
  have e1a := hb1.cell (i := 0) rfl
  have e1b := hb1.cell (i := 1) rfl
  have e2a := hb2.cell (i := 0) rfl
  have e2b := hb2.cell (i := 1) rfl
  have e3a := hb3.cell (i := 0) rfl
  have e3b := hb3.cell (i := 1) rfl
  go_enter Tryz.func54, Tryz.ntmps54
  go_wp2_with fail
  rw [← Hw0.out]
  refine (both_bad s t A C c d n m l k w0 (hl.up hup0) (hm.up hup0) hw1 hw2 Hn Hm hn hm' hbad).mono ?_
  rintro e w1 ⟨rfl, hup1⟩
  have hb5 := hb3.up hup1
  have f1 := hb5.cell (i := 0) rfl
  have f2 := hb5.cell (i := 1) rfl
  have f3 := hb5.frozen 0
  have f4 := hb5.frozen 1
  have q := hb5.two (.bool false) (.slice none 0 0)
  go_wp2
  exact bodyPost_ret (v := .tuple #[.agg #[.bool false, .slice none 0 0], .int .i64 1]) (by simp [results, Tryz.results54, go_sem, q.1, q.2]) rfl ⟨rfl, (hup0.trans hup1).two (by omega) _ _⟩
set_option maxRecDepth 100000 in
set_option maxHeartbeats 4000000 in
theorem divBad (v v' : Value) (w : World) (hb : Bad2 w v v') : Calls Tryz.prog 70 #[v, v'] w fun e w' => e = .returned (.tuple #[.agg #[.bool false, .slice none 0 0], .agg #[.bool false, .slice none 0 0], .int .i64 1]) ∧ Up w w' := by
  obtain ⟨s, l, t, k, ⟨A, n, c, rfl, hl, Hn, hc⟩, ⟨C, m, d, rfl, hm, Hm, hd⟩, hw1, hw2, hl60, hk60, hbad⟩ := hb
  have hn : n ≤ 1000000 := by rw [Hn.out]; omega
  have hm' : m ≤ 1000000 := by rw [Hm.out]; omega
  obtain ⟨w0, hw0⟩ : ∃ w0, w0 = ((((w.alloc (.cells #[.bool s, .slice A n c] 24)).alloc (.cells #[.bool t, .slice C m d] 24)).alloc (.cells #[.bool false, .slice none 0 0] 24)).alloc (.cells #[.bool false, .slice none 0 0] 24)) := ⟨_, rfl⟩
  have hb1 : Bk w0 (w.heap.size) 24 #[.bool s, .slice A n c] := by
    have := (((Bk.new w 24 #[.bool s, .slice A n c]).alloc (.cells #[.bool t, .slice C m d] 24)).alloc (.cells #[.bool false, .slice none 0 0] 24)).alloc (.cells #[.bool false, .slice none 0 0] 24)
    rw [hw0]; simpa using this
  have hb2 : Bk w0 (w.heap.size + 1) 24 #[.bool t, .slice C m d] := by
    have := ((Bk.new (w.alloc (.cells #[.bool s, .slice A n c] 24)) 24 #[.bool t, .slice C m d]).alloc (.cells #[.bool false, .slice none 0 0] 24)).alloc (.cells #[.bool false, .slice none 0 0] 24)
    rw [hw0]; simpa using this
  have hb3 : Bk w0 (w.heap.size + 1 + 1) 24 #[.bool false, .slice none 0 0] := by
    have := (Bk.new ((w.alloc (.cells #[.bool s, .slice A n c] 24)).alloc (.cells #[.bool t, .slice C m d] 24)) 24 #[.bool false, .slice none 0 0]).alloc (.cells #[.bool false, .slice none 0 0] 24)
    rw [hw0]; simpa using this
  have hb4 : Bk w0 (w.heap.size + 1 + 1 + 1) 24 #[.bool false, .slice none 0 0] := by
    have := Bk.new (((w.alloc (.cells #[.bool s, .slice A n c] 24)).alloc (.cells #[.bool t, .slice C m d] 24)).alloc (.cells #[.bool false, .slice none 0 0] 24)) 24 #[.bool false, .slice none 0 0]
    rw [hw0]; simpa using this
  have hup0 : Up w w0 := by rw [hw0]; exact ((((Up.refl w).alloc _).alloc _).alloc _).alloc _
  have hsz0 : w.heap.size + 4 ≤ w0.heap.size := by rw [hw0]; simp
  have Hw0 := hide hw0
  clear hw0
  have e1a := hb1.cell (i := 0) rfl
  have e1b := hb1.cell (i := 1) rfl
  have e2a := hb2.cell (i := 0) rfl
  have e2b := hb2.cell (i := 1) rfl
  have e3a := hb3.cell (i := 0) rfl
  have e3b := hb3.cell (i := 1) rfl
  have e4a := hb4.cell (i := 0) rfl
  have e4b := hb4.cell (i := 1) rfl
  go_enter Tryz.func70, Tryz.ntmps70
  go_wp2_with fail
  rw [← Hw0.out]
  refine (both_bad s t A C c d n m l k w0 (hl.up hup0) (hm.up hup0) hw1 hw2 Hn Hm hn hm' hbad).mono ?_
  rintro e w1 ⟨rfl, hup1⟩
  have hb5 := hb3.up hup1
  have hb6 := hb4.up hup1
  have f1 := hb5.cell (i := 0) rfl
  have f2 := hb5.cell (i := 1) rfl
  have f3 := hb5.frozen 0
  have f4 := hb5.frozen 1
  have p1 := hb6.cell (i := 0) rfl
  have p2 := hb6.cell (i := 1) rfl
  have p3 := hb6.frozen 0
  have p4 := hb6.frozen 1
  have hQ1 := (hb5.two_bk (.bool false) (.slice none 0 0)).far2 (g' := w.heap.size + 1 + 1 + 1) (by omega) (.bool false) (.slice none 0 0)
  have hQ2 := (hb6.far2 (g' := w.heap.size + 1 + 1) (by omega) (.bool false) (.slice none 0 0)).two_bk (.bool false) (.slice none 0 0)
  have q1 := hQ1.cell (i := 0) rfl
  have q2 := hQ1.cell (i := 1) rfl
  have q3 := hQ2.cell (i := 0) rfl
  have q4 := hQ2.cell (i := 1) rfl
  go_wp2
  exact bodyPost_ret (v := .tuple #[.agg #[.bool false, .slice none 0 0], .agg #[.bool false, .slice none 0 0], .int .i64 1]) (by simp [results, Tryz.results70, go_sem, q1, q2, q3, q4]) rfl ⟨rfl, ((hup0.trans hup1).two (by omega) _ _).two (by omega) _ _⟩
end Go.Proofs.YtldifgfpecicnaaGreatDoor
/- Whole integers: equality, and Of at every number; what the laws' awake returns. -/
namespace Go.Proofs.YtldifgfpecicnaaGreatDoor
open Go.RowKit

theorem equalI (B B' : Nat) (v v' : Value) (x : Int) (w : World) (hv : IsInt B w v x) (hv' : IsInt B' w v' x) (hx : x.natAbs < top300) :
    Calls Tryz.prog 53 #[v, v'] w fun e w' => e = .returned (.bool true) ∧ Up w w' := by
  obtain ⟨s, A, n, c, rfl, Hs, Hn, hl, hc, _⟩ := hv
  obtain ⟨t, C, m, d, rfl, Ht, Hm, hm, hd, _⟩ := hv'
  obtain rfl : s = t := Hs.out.trans Ht.out.symm
  obtain rfl : n = m := Hn.out.trans Hm.out.symm
  exact equal_any s A C c d n _ w hl hm (dig_lim _).w32 Hn (by rw [Hn.out]; have := len_of_top hx; omega)
theorem i64_sgn {z : Int} (h1 : -9223372036854775808 ≤ z) (h2 : z ≤ 9223372036854775807) : Hid (z = sgn (decide (z < 0)) z.natAbs ∧ (z.natAbs = 0 → decide (z < 0) = false)) ∧ z.natAbs ≤ 9223372036854775808 ∧ (decide (z < 0) = false → z.natAbs ≤ 9223372036854775807) := by
  refine ⟨⟨?_, ?_⟩, by omega, ?_⟩
  · unfold sgn; by_cases h : z < 0 <;> simp [h] <;> omega
  · intro h; simp; omega
  · intro h; simp at h; omega
theorem ofI (z : Int) (w : World) (h1 : -9223372036854775808 ≤ z) (h2 : z ≤ 9223372036854775807) : Calls Tryz.prog 51 #[.int .i64 z] w (RetInt w z) :=
  of_any z _ _ w (i64_sgn h1 h2).1 (i64_sgn h1 h2).2.1 (i64_sgn h1 h2).2.2
theorem rofI (z : Int) (w : World) (h1 : -9223372036854775808 ≤ z) (h2 : z ≤ 9223372036854775807) : Calls Tryz.prog 52 #[.int .i64 z] w (RetInt w z) :=
  rof_any z _ _ w (i64_sgn h1 h2).1 (i64_sgn h1 h2).2.1 (i64_sgn h1 h2).2.2
theorem i64_top {z : Int} (h1 : -9223372036854775808 ≤ z) (h2 : z ≤ 9223372036854775807) : z.natAbs < top300 := word_top (by omega)
theorem two_new (w : World) (X Y : Array Value) (t t' : TypeId) : Bk ((w.alloc (.cells X t)).alloc (.cells Y t')) w.heap.size t X ∧ Bk ((w.alloc (.cells X t)).alloc (.cells Y t')) (w.heap.size + 1) t' Y :=
  ⟨(Bk.new w t X).alloc _, by have := Bk.new (w.alloc (.cells X t)) t' Y; rwa [World.size_alloc] at this⟩
theorem lit_int (w : World) (l : List Nat) (cs : Array Value) (s : Bool) (n : Nat) (z : Int) (hl : l.length = n) (hn : n ≤ 1000000) (hcs : cs = (u32s l).toArray) (hz : l = lim z.natAbs) (hs : s = decide (z < 0)) :
    IsInt 0 (w.alloc (.cells cs 91)) (.agg #[.bool s, .slice (some ⟨w.heap.size, 0, none⟩) n n]) z := by
  have hown := Own.lit w (base := 0) (n := n) l cs (Nat.zero_le _) hn hl hcs
  obtain ⟨A, c, hA, hc, hlim, _⟩ := hown.lim
  cases hA
  exact ⟨s, _, n, n, rfl, hs, by rw [← hz]; exact hl.symm, by rw [← hz]; exact hlim, Nat.le_refl _, fun _ _ => Nat.zero_le _⟩
theorem lim_awake : [7, 1] = lim (-1000000007 : Int).natAbs := by
  rw [show (-1000000007 : Int).natAbs = 1000000007 from rfl, lim_pos (by decide), show 1000000007 / 1000000000 = 1 from rfl, lim_pos (by decide), show 1 / 1000000000 = 0 from rfl, lim_zero]

end Go.Proofs.YtldifgfpecicnaaGreatDoor
/- Raw integers that came in; what every law's row says by itself. -/
namespace Go.Proofs.YtldifgfpecicnaaGreatDoor
open Go.RowKit

open Go.ChangeShapes Go.WideShapes Go.ChangeAt Go.Joins Go.Deep
theorem ownK : ownKnob Tryz.prog.godebug = none := by kernel_rfl
theorem laidOut : laidOutB Tryz.prog = true := by kernel_rfl
theorem u32_wf {n : Int} (h : (Lit.int .u32 n).wf = true) : 0 ≤ n ∧ n < 4294967296 := by
  have h1 : IntKind.u32.min = 0 := rfl
  have h2 : IntKind.u32.max = 4294967295 := rfl
  simp [Lit.wf, h1, h2] at h
  omega
/-- What came in: a sign, and any 32-bit numbers. -/
def RawIn (w : World) (v : Value) : Prop := ∃ s A n c l, v = .agg #[.bool s, .slice A n c] ∧ Lim w A l ∧ W32 l ∧ Hid (n = l.length) ∧ n ≤ 9223372036854775807 ∧ n ≤ c
set_option maxRecDepth 100000 in
theorem raw_slice {H : Type} {enc : TypeId × Value → H} {w : World} {held : Bool} {fuel : Nat} {v : Value} {x : DataW H × List MemPlace} (h : DataW.trod enc Tryz.prog w 0 (fun _ => true) held fuel 22 [v] = some x) :
    ∃ A n c l, v = .slice A n c ∧ Lim w A l ∧ W32 l ∧ Hid (n = l.length) ∧ n ≤ 9223372036854775807 ∧ n ≤ c := by
  rcases open_ints Tryz.underlying22 Tryz.underlying91 (by kernel_rfl) h with ⟨hcs, _⟩ | ⟨a, len, cap, zs, hcs, _, hl, hm, hz, _, hcell, hwz⟩
  · simp at hcs
    subst hcs
    exact ⟨none, 0, 0, [], rfl, Lim.nil _ _, (fun _ h => by cases h), rfl, by omega, Nat.le_refl _⟩
  · simp at hcs
    subst hcs
    simp at hz
    unfold maxLen at hm
    have hb : ∀ i, i < zs.length → 0 ≤ zs.getD i 0 ∧ zs.getD i 0 < 4294967296 := fun i hi => by
      have h1 := u32_wf (hwz (zs.getD i 0) (by rw [List.getD, List.getElem?_eq_getElem hi]; exact List.getElem_mem hi))
      exact h1
    refine ⟨some a, len, cap, (zs.take len).map Int.toNat, rfl, ?_, ?_, ?_, by omega, hl⟩
    · by_cases h0 : len = 0
      · subst h0; simp [Lim.nil]
      · refine .inr ⟨a, rfl, ?_, ?_⟩
        · have h1 := hcell 0 (by omega)
          have h2 := World.block_lt_of_cell? w _ h1
          rwa [addBlock] at h2
        · intro j x hx
          have hj : j < len := by
            have h1 := List.getElem?_eq_some_iff.1 hx
            obtain ⟨h1, _⟩ := h1
            simp at h1
            omega
          have hjz : j < zs.length := by omega
          rw [hcell j hjz]
          have h2 := hb j hjz
          rw [List.getElem?_map, List.getElem?_take, if_pos hj, List.getElem?_eq_getElem hjz] at hx
          simp at hx
          subst hx
          have e : zs.getD j 0 = zs[j] := by simp [List.getD, hjz]
          rw [e] at h2 ⊢
          rw [Int.toNat_of_nonneg h2.1]
    · intro x hx
      simp only [List.mem_map] at hx
      obtain ⟨z, hz1, rfl⟩ := hx
      have h1 := u32_wf (hwz z (List.mem_of_mem_take hz1))
      omega
    · show len = _
      simp; omega
set_option maxRecDepth 100000 in
theorem raw_open {H : Type} {enc : TypeId × Value → H} {w : World} {held : Bool} {base : Nat} {t : TypeId} {f0 f1 : Field} {v : Value} {d : DataW H} {p : List MemPlace} (hs : Tryz.prog.underlying t = some (.struct #[f0, f1])) (hone : oneCellFields Tryz.prog #[f0, f1] = true) (hC : Tryz.prog.cellsOf t = 2)
    (h0 : f0.type = 4) (h1 : f1.type = 22) (hv : Value.okWide Tryz.prog w .any base t v) (h : DataW.Trod enc Tryz.prog w 0 (fun _ => true) held t v d p) : RawIn w v := by
  obtain ⟨c0, c1, y0, y1, m, rfl, _, _, hy0, hy1⟩ := open_agg2 hs hone hC hv h
  rw [h0] at hy0
  rw [h1] at hy1
  obtain ⟨A, n, c, l, rfl, h2⟩ := raw_slice hy1
  obtain ⟨b, e0, _⟩ := DataW.trod_bool Tryz.underlying4 hy0
  simp at e0
  subst e0
  exact ⟨b, A, n, c, l, rfl, h2⟩
end Go.Proofs.YtldifgfpecicnaaGreatDoor
/- A region that draws its order, by an invariant: one step for each operation, whatever the order. -/
namespace Go.Proofs.YtldifgfpecicnaaGreatDoor
open Go.RowKit

/-- How many operations are still to come. -/
def left (l : Array Bool) : Nat := (l.toList.filter fun b => !b).length
theorem left_set : ∀ (l : List Bool) (i : Nat), l[i]? = some false → ((l.set i true).filter fun b => !b).length < (l.filter fun b => !b).length
  | [], _, h => by cases h
  | b :: l, 0, h => by simp at h; subst h; simp
  | b :: l, i + 1, h => by
    have := left_set l i (by simpa using h)
    cases b <;> simp <;> omega
theorem getD_false {l : Array Bool} {i : Nat} (h : l.getD i true = false) : l.toList[i]? = some false := by
  rw [Array.getD_eq_getD_getElem?] at h
  rw [Array.getElem?_toList]
  cases e : l[i]? with
  | none => rw [e] at h; cases h
  | some b => rw [e] at h; simp at h; rw [h]
theorem left_lt {l : Array Bool} {i : Nat} (h : l.getD i true = false) : left (l.setIfInBounds i true) < left l := by
  unfold left
  rw [Array.toList_setIfInBounds]
  exact left_set _ _ (getD_false h)
theorem left_pos {l : Array Bool} {i : Nat} (h : l.getD i true = false) : 0 < left l := Nat.lt_of_le_of_lt (Nat.zero_le _) (left_lt h)
section
variable {P : Program} {ops : Array Oper} {Q : Exit → Act → World → Prop} {md : Region.Mode}
theorem ready_not {l : Array Bool} {i : Nat} (h : i ∈ Region.ready md ops l) : l.getD i true = false := by
  unfold Region.ready at h
  have := (List.mem_filter.1 h).2
  simp only [Bool.and_eq_true, Bool.not_eq_true'] at this
  exact this.1
theorem ready_lt {l : Array Bool} {i : Nat} (h : i ∈ Region.ready md ops l) : i < ops.size := by
  unfold Region.ready at h
  exact List.mem_range.1 (List.mem_filter.1 h).1
theorem ready_dep {l : Array Bool} {i : Nat} {o : Oper} (h : i ∈ Region.ready md ops l) (ho : ops[i]? = some o) (d : Nat) (hd : (o.after.any fun e => Region.binds md e && e.on == d) = true) : l.getD d false = true := by
  unfold Region.ready at h
  have h2 := (List.mem_filter.1 h).2
  simp only [Bool.and_eq_true, ho, Option.map_some, Option.getD_some] at h2
  obtain ⟨e, he, h3⟩ := Array.any_eq_true'.1 hd
  have h4 := (Array.all_eq_true'.1 h2.2) e he
  simp only [Bool.and_eq_true, beq_iff_eq] at h3
  rw [h3.1, h3.2] at h4
  simpa using h4
/-- The edges that bind lead back. -/
def backs (md : Region.Mode) (ops : Array Oper) : Bool := (List.range ops.size).all fun i => ((ops[i]?).map fun o => o.after.all fun e => !Region.binds md e || decide (e.on < i)).getD false
theorem all_listed {l : Array Bool} (hb : backs md ops = true) (hs : l.size = ops.size) (h : Region.ready md ops l = []) : ∀ i, i < ops.size → l.getD i false = true := by
  intro i
  induction i using Nat.strongRecOn with
  | _ i ih =>
    intro hi
    cases e : l.getD i false with
    | true => rfl
    | false =>
      exfalso
      have h1 : l.getD i true = false := by
        rw [Array.getD_eq_getD_getElem?] at e ⊢
        have : l[i]? = some l[i] := Array.getElem?_eq_getElem (by omega)
        rw [this] at e ⊢
        exact e
      have h2 := List.all_eq_true.1 hb i (List.mem_range.2 hi)
      have h3 : i ∈ Region.ready md ops l := by
        unfold Region.ready
        refine List.mem_filter.2 ⟨List.mem_range.2 hi, ?_⟩
        cases ho : ops[i]? with
        | none => rw [ho] at h2; cases h2
        | some o =>
          rw [ho] at h2
          simp only [Option.map_some, Option.getD_some] at h2 ⊢
          rw [h1]
          simp only [Bool.not_false, Bool.true_and]
          refine Array.all_eq_true'.2 fun x hx => ?_
          have h4 := Array.all_eq_true'.1 h2 x hx
          cases hbd : Region.binds md x with
          | false => simp
          | true =>
            rw [hbd] at h4
            simp at h4
            simp [ih x.on h4 (by omega)]
      rw [h] at h3
      cases h3
theorem wpAny_inv (J : Array Bool → Act → World → Prop) (hb : backs md ops = true) (hs : ∀ l a w, J l a w → l.size = ops.size)
    (hQ : ∀ l a w, J l a w → (∀ i, i < ops.size → l.getD i false = true) → Q .normal a w)
    (hstep : ∀ l a w, J l a w → ∀ i, i ∈ Region.ready md ops l → wpOp P ops Q i (J (l.setIfInBounds i true)) a w) :
    ∀ (fuel : Nat) (l : Array Bool) (a : Act) (w : World), left l ≤ fuel → J l a w → wpAny P md ops Q fuel l a w
  | 0, l, a, w, hl, hJ => by
    have hn : Region.ready md ops l = [] := by
      cases e : Region.ready md ops l with
      | nil => rfl
      | cons i t =>
        have hi : i ∈ Region.ready md ops l := by rw [e]; simp
        have := left_pos (ready_not hi)
        omega
    exact ⟨hn, hQ l a w hJ (all_listed hb (hs l a w hJ) hn)⟩
  | fuel + 1, l, a, w, hl, hJ => ⟨fun hn => hQ l a w hJ (all_listed hb (hs l a w hJ) hn), fun i hi =>
      wpOp_mono (fun a' w' h' => wpAny_inv J hb hs hQ hstep fuel _ a' w' (by have := left_lt (ready_not hi); omega) h') (hstep l a w hJ i hi)⟩
theorem left_replicate (n : Nat) : left (Array.replicate n false) ≤ n := by simp [left]
/-- A region that draws its order, by an invariant. -/
theorem region_inv (J : Array Bool → Act → World → Prop) {id : Nat} {a : Act} {w : World} (hm : P.follows .mixedOrders = true) (hb : backs .any ops = true) (hs : ∀ l a w, J l a w → l.size = ops.size)
    (h0 : J (Array.replicate ops.size false) a w.drew)
    (hstep : ∀ l a w, J l a w → ∀ i, i ∈ Region.ready .any ops l → wpOp P ops Q i (J (l.setIfInBounds i true)) a w)
    (hQ : ∀ l a w, J l a w → (∀ i, i < ops.size → l.getD i false = true) → Q .normal a w) : (Code.region id ops true).wp P Q a w :=
  wp_region_any hm (wpAny_inv J hb hs hQ hstep ops.size _ _ _ (left_replicate _) h0)
end
/-- A number is neither a sign nor a slice: limbs do not lie in the box of an integer. -/
theorem Lim.boxed {w : World} {A : Option Addr} {l : List Nat} {g : Nat} {t : TypeId} {s : Bool} {B : Option Addr} {n c : Nat} (h : Lim w A l) (hb : Bk w g t #[.bool s, .slice B n c]) (x y : Value) : Lim ((w.setCell ⟨g, 0, none⟩ x).setCell ⟨g, 1, none⟩ y) A l := by
  rcases h with rfl | ⟨ad, rfl, hlt, hc⟩
  · exact Or.inl rfl
  · by_cases hl : l = []
    · exact Or.inl hl
    · have hg : ad.block ≠ g := fun e => by
        obtain ⟨x0, l', rfl⟩ := List.exists_cons_of_ne_nil hl
        have h0 := hc 0 x0 rfl
        have ha : ad.add 0 = ad := by simp [Addr.add]
        rw [ha] at h0
        unfold Bk at hb
        rw [← e] at hb
        have h1 : w.cell? ad = (#[Value.bool s, .slice B n c] : Array Value)[ad.off]? ∨ ad.spot.isSome = true := by
          cases hsp : ad.spot with
          | none => left; simp [World.cell?, hb, hsp]
          | some _ => right; rfl
        rcases h1 with h1 | h1
        · rw [h1] at h0
          match ho : ad.off, h0 with
          | 0, h0 => simp at h0
          | 1, h0 => simp at h0
          | _ + 2, h0 => simp at h0
        · have := World.cell?_spot h0
          rw [this] at h1
          cases h1
      refine Or.inr ⟨ad, rfl, by simpa using hlt, fun j z hz => ?_⟩
      have n1 : ∀ o, ad.add j ≠ ⟨g, o, none⟩ := fun o e => hg (by have := congrArg Addr.block e; rwa [addBlock] at this)
      exact ((World.cell?_setCell_other _ _ _ _ (n1 1).symm).trans (World.cell?_setCell_other _ _ _ _ (n1 0).symm)).trans (hc j z hz)
end Go.Proofs.YtldifgfpecicnaaGreatDoor
/- Boxes of integers in a region that draws its order. -/
namespace Go.Proofs.YtldifgfpecicnaaGreatDoor
open Go.RowKit

/-- The value is a valid integer. -/
def Got (w : World) (x : Value) : Prop := ∃ z, IsInt 0 w x z ∧ z.natAbs < top300
/-- x points to a box; once it is filled, it holds y. -/
def Box (B : Nat) (w : World) (x : Value) (b : Bool) (y : Value) : Prop := ∃ g s A n c, x = .pointer (some ⟨g, 0, none⟩) ∧ B ≤ g ∧ Bk w g 24 #[.bool s, .slice A n c] ∧ (b = true → y = .agg #[.bool s, .slice A n c])
theorem IsInt.boxed {B : Nat} {w : World} {v : Value} {z : Int} {g : Nat} {t : TypeId} {s : Bool} {A : Option Addr} {n c : Nat} (h : IsInt B w v z) (hb : Bk w g t #[.bool s, .slice A n c]) (x y : Value) : IsInt B ((w.setCell ⟨g, 0, none⟩ x).setCell ⟨g, 1, none⟩ y) v z := by
  obtain ⟨s', A', n', c', rfl, h1, h2, h3, h4, h5⟩ := h
  exact ⟨s', A', n', c', rfl, h1, h2, h3.boxed hb x y, h4, h5⟩
theorem Got.up {w w' : World} {x : Value} (h : Got w x) (hu : Up w w') : Got w' x := by
  obtain ⟨z, h1, h2⟩ := h
  exact ⟨z, h1.up hu, h2⟩
theorem Got.boxed {w : World} {v : Value} {g : Nat} {t : TypeId} {s : Bool} {A : Option Addr} {n c : Nat} (h : Got w v) (hb : Bk w g t #[.bool s, .slice A n c]) (x y : Value) : Got ((w.setCell ⟨g, 0, none⟩ x).setCell ⟨g, 1, none⟩ y) v := by
  obtain ⟨z, h1, h2⟩ := h
  exact ⟨z, h1.boxed hb x y, h2⟩
theorem Box.up {B : Nat} {w w' : World} {x y : Value} {b : Bool} (h : Box B w x b y) (hu : Up w w') : Box B w' x b y := by
  obtain ⟨g, s, A, n, c, h1, h2, h3, h4⟩ := h
  exact ⟨g, s, A, n, c, h1, h2, h3.up hu, h4⟩
theorem Box.new (B : Nat) (w : World) (y : Value) (hB : B ≤ w.heap.size) : Box B (w.alloc (.cells #[.bool false, .slice none 0 0] 24)) (.pointer (some ⟨w.heap.size, 0, none⟩)) false y :=
  ⟨_, _, _, _, _, rfl, hB, Bk.new w _ _, fun h => by cases h⟩
theorem Box.ne_new {B : Nat} {w : World} {x y : Value} {b : Bool} (h : Box B w x b y) : x ≠ .pointer (some ⟨w.heap.size, 0, none⟩) := by
  obtain ⟨g, s, A, n, c, rfl, h2, h3, h4⟩ := h
  have := h3.lt
  intro e
  injection e with e
  injection e with e
  injection e with e
  omega
/-- A store into another box. -/
theorem Box.far {B : Nat} {w : World} {x y : Value} {b : Bool} {g : Nat} (h : Box B w x b y) (hne : x ≠ .pointer (some ⟨g, 0, none⟩)) (u v : Value) : Box B ((w.setCell ⟨g, 0, none⟩ u).setCell ⟨g, 1, none⟩ v) x b y := by
  obtain ⟨g', s, A, n, c, rfl, h2, h3, h4⟩ := h
  exact ⟨g', s, A, n, c, rfl, h2, h3.far2 (fun e => hne (by rw [e])) u v, h4⟩
theorem Got.agg {w : World} {y : Value} (h : Got w y) : ∃ s A n c, y = .agg #[.bool s, .slice A n c] := by
  obtain ⟨z, ⟨s, A, n, c, rfl, _⟩, _⟩ := h
  exact ⟨s, A, n, c, rfl⟩
/-- The box is filled. -/
theorem Bk.fill {B : Nat} {w : World} {g : Nat} {s s' : Bool} {A A' : Option Addr} {n c n' c' : Nat} (h : Bk w g 24 #[.bool s, .slice A n c]) (hB : B ≤ g) : Box B ((w.setCell ⟨g, 0, none⟩ (.bool s')).setCell ⟨g, 1, none⟩ (.slice A' n' c')) (.pointer (some ⟨g, 0, none⟩)) true (.agg #[.bool s', .slice A' n' c']) :=
  ⟨g, s', A', n', c', rfl, hB, h.two_bk _ _, fun _ => rfl⟩
theorem Box.far' {B : Nat} {w : World} {x x' y : Value} {b : Bool} {g : Nat} (hx : x' = .pointer (some ⟨g, 0, none⟩)) (h : Box B w x b y) (hne : x ≠ x') (u v : Value) : Box B ((w.setCell ⟨g, 0, none⟩ u).setCell ⟨g, 1, none⟩ v) x b y := h.far (hx ▸ hne) u v
theorem getB {b : Bool} {l : List Bool} {i : Nat} (h : (l.toArray).getD i false = true) (e : l[i]? = some b) : b = true := by
  rw [Array.getD_eq_getD_getElem?] at h
  simp [e] at h
  exact h
theorem IsInt.agg {B : Nat} {w : World} {y : Value} {z : Int} (h : IsInt B w y z) : ∃ s A n c, y = .agg #[.bool s, .slice A n c] := by
  obtain ⟨s, A, n, c, rfl, _⟩ := h
  exact ⟨s, A, n, c, rfl⟩
theorem madeR (v : Value) (w : World) (h : RawIn w v) : Calls Tryz.prog 57 #[v] w (RetSome w) := by
  obtain ⟨s, A, n, c, l, rfl, h1, h2, h3, h4, _⟩ := h
  exact made_any s A n c l w h1 h2 h3 h4
theorem RawIn.up {w w' : World} {v : Value} (h : RawIn w v) (hu : Up w w') : RawIn w' v := by
  obtain ⟨s, A, n, c, l, rfl, h1, h2, h3, h4, h5⟩ := h
  exact ⟨s, A, n, c, l, rfl, h1.up hu, h2, h3, h4, h5⟩
end Go.Proofs.YtldifgfpecicnaaGreatDoor
/- Raw integers of at most 60 limbs: what the law of errors asks of them. -/
namespace Go.Proofs.YtldifgfpecicnaaGreatDoor
open Go.RowKit

/-- A raw integer of at most 60 limbs. -/
def Rw (w : World) (v : Value) (s : Bool) (l : List Nat) : Prop := Raw w v s l ∧ W32 l ∧ l.length ≤ 60
theorem Rw.up {w w' : World} {v : Value} {s : Bool} {l : List Nat} (h : Rw w v s l) (hu : Up w w') : Rw w' v s l := ⟨h.1.up hu, h.2⟩
theorem Rw.boxed {w : World} {v : Value} {s t : Bool} {l : List Nat} {g : Nat} {y : TypeId} {B : Option Addr} {n c : Nat} (h : Rw w v s l) (hb : Bk w g y #[.bool t, .slice B n c]) (x z : Value) : Rw ((w.setCell ⟨g, 0, none⟩ x).setCell ⟨g, 1, none⟩ z) v s l := by
  obtain ⟨⟨A, n, c, rfl, h1, h2, h3⟩, h4⟩ := h
  exact ⟨⟨A, n, c, rfl, h1.boxed hb x z, h2, h3⟩, h4⟩
theorem Rw.agg {w : World} {v : Value} {s : Bool} {l : List Nat} (h : Rw w v s l) : ∃ A n c, v = .agg #[.bool s, .slice A n c] := by
  obtain ⟨⟨A, n, c, rfl, _⟩, _⟩ := h
  exact ⟨A, n, c, rfl⟩
theorem bad2 {w : World} {v v' : Value} {s t : Bool} {l k : List Nat} (h : Rw w v s l) (h' : Rw w v' t k) (hb : Hid (rawValid s l = false ∨ rawValid t k = false)) : Bad2 w v v' := ⟨s, l, t, k, h.1, h'.1, h.2.1, h'.2.1, h.2.2, h'.2.2, hb⟩
def RetZ (w : World) (e : Ending) (w' : World) : Prop := ∃ v, e = .returned (.tuple #[v, .int .i64 1]) ∧ IsInt w.heap.size w' v 0 ∧ Up w w'
theorem addZ (v v' : Value) (s t : Bool) (l k : List Nat) (w : World) (hb : Hid (rawValid s l = false ∨ rawValid t k = false)) (h : Rw w v s l) (h' : Rw w v' t k) : Calls Tryz.prog 91 #[v, v'] w (RetZ w) := by
  refine (addBad v v' w (bad2 h h' hb)).mono ?_
  rintro e w' ⟨rfl, hup⟩
  exact ⟨_, rfl, IsInt.zero _ _, hup⟩
theorem subZ (v v' : Value) (s t : Bool) (l k : List Nat) (w : World) (hb : Hid (rawValid s l = false ∨ rawValid t k = false)) (h : Rw w v s l) (h' : Rw w v' t k) : Calls Tryz.prog 63 #[v, v'] w (RetZ w) := by
  refine (subBad v v' w (bad2 h h' hb)).mono ?_
  rintro e w' ⟨rfl, hup⟩
  exact ⟨_, rfl, IsInt.zero _ _, hup⟩
theorem mulZ (v v' : Value) (s t : Bool) (l k : List Nat) (w : World) (hb : Hid (rawValid s l = false ∨ rawValid t k = false)) (h : Rw w v s l) (h' : Rw w v' t k) : Calls Tryz.prog 69 #[v, v'] w (RetZ w) := by
  refine (mulBad v v' w (bad2 h h' hb)).mono ?_
  rintro e w' ⟨rfl, hup⟩
  exact ⟨_, rfl, IsInt.zero _ _, hup⟩
theorem gcdZ (v v' : Value) (s t : Bool) (l k : List Nat) (w : World) (hb : Hid (rawValid s l = false ∨ rawValid t k = false)) (h : Rw w v s l) (h' : Rw w v' t k) : Calls Tryz.prog 54 #[v, v'] w (RetZ w) := by
  refine (gcdBad v v' w (bad2 h h' hb)).mono ?_
  rintro e w' ⟨rfl, hup⟩
  exact ⟨_, rfl, IsInt.zero _ _, hup⟩
theorem divZ (v v' : Value) (s t : Bool) (l k : List Nat) (w : World) (hb : Hid (rawValid s l = false ∨ rawValid t k = false)) (h : Rw w v s l) (h' : Rw w v' t k) : Calls Tryz.prog 70 #[v, v'] w (RetInt2 w 0 0 1) := by
  refine (divBad v v' w (bad2 h h' hb)).mono ?_
  rintro e w' ⟨rfl, hup⟩
  exact ⟨_, _, rfl, IsInt.zero _ _, IsInt.zero _ _, hup⟩
theorem rvalidZ (v : Value) (s : Bool) (l : List Nat) (b : Bool) (w : World) (hb : Hid (rawValid s l = b)) (h : Rw w v s l) : Calls Tryz.prog 47 #[v] w fun e w' => e = .returned (.bool b) ∧ Up w w' := by
  obtain ⟨⟨A, n, c, rfl, h1, h2, _⟩, h4, h5⟩ := h
  rw [← hb.out]
  exact rvalid_raw s A c n l w h1 h4 h2 (by rw [h2.out]; omega)
set_option maxRecDepth 100000 in
set_option maxHeartbeats 4000000 in
theorem formatZ (v : Value) (s : Bool) (l : List Nat) (w : World) (hb : Hid (rawValid s l = false)) (h : Rw w v s l) : Calls Tryz.prog 66 #[v] w fun e w' => e = .returned (.tuple #[.string ⟨#[]⟩, .int .i64 1]) ∧ Up w w' := by
  obtain ⟨⟨A, n, c, rfl, hl, Hn, hc⟩, hw1, hl60⟩ := h
  have hn : n ≤ 1000000 := by rw [Hn.out]; omega
  obtain ⟨w0, hw0⟩ : ∃ w0, w0 = (w.alloc (.cells #[.bool s, .slice A n c] 24)) := ⟨_, rfl⟩
  have hb1 : Bk w0 (w.heap.size) 24 #[.bool s, .slice A n c] := by
    have := Bk.new w 24 #[.bool s, .slice A n c]
    rw [hw0]; simpa using this
  have hup0 : Up w w0 := by rw [hw0]; exact (Up.refl w).alloc _
  have hsz0 : w.heap.size + 1 ≤ w0.heap.size := by rw [hw0]; simp
  have Hw0 := hide hw0
  clear hw0
  have e1a := hb1.cell (i := 0) rfl
  have e1b := hb1.cell (i := 1) rfl
  go_enter Tryz.func66, Tryz.ntmps66
  go_wp2_with fail
  rw [← Hw0.out]
  refine (valid_any s A c n l w0 (hl.up hup0) hw1 Hn hn).mono ?_
  rintro e w1 ⟨rfl, hup1⟩
  rw [hb.out]
  go_wp2
  go_ret2
  exact ⟨rfl, hup0.trans hup1⟩
theorem zero_top : (0 : Int).natAbs < top300 := by have := bas_pos 33; simp [top300]; omega
end Go.Proofs.YtldifgfpecicnaaGreatDoor
