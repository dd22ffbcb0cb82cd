/- Fractions: lowest terms, products. -/
import Derived.Test.YtldifgfpecicnaaGreatDoorRBase
namespace Go.Proofs.YtldifgfpecicnaaGreatDoor
open Go.RowKit

theorem gcdG {w : World} {v v' : Value} {x y g : Int} (Hg : Hid (g = (Nat.gcd x.natAbs y.natAbs : Nat))) (h : Iz w v x) (h' : Iz w v' y) : Calls Tryz.prog 54 #[v, v'] w (PIE w g 0) := by
  rw [Hg.out]; exact gcdQ h h'
theorem rgcdG {w : World} {v v' : Value} {x y g : Int} (Hg : Hid (g = (Nat.gcd x.natAbs y.natAbs : Nat))) (h : Iz w v x) (h' : Iz w v' y) : Calls Tryz.prog 49 #[v, v'] w (PI w g) := by
  rw [Hg.out]; exact rgcdQ h h'
theorem g_ne {x y g : Int} (Hg : Hid (g = (Nat.gcd x.natAbs y.natAbs : Nat))) (hy : y ≠ 0) : g ≠ 0 := by
  have := gcd_pos_of (p := x) hy
  rw [Hg.out]; omega
theorem g_one {x y g : Int} (Hg : Hid (g = (Nat.gcd x.natAbs y.natAbs : Nat))) (h : lowB x y = true) : g = 1 := by
  unfold lowB at h
  simp only [Bool.and_eq_true, decide_eq_true_eq] at h
  rw [Hg.out, h.2]; rfl
theorem g_not {x y g : Int} (Hg : Hid (g = (Nat.gcd x.natAbs y.natAbs : Nat))) (hy : 0 < y) (h : lowB x y = false) : g ≠ 1 := by
  intro e
  have h1 := Hg.out
  rw [e] at h1
  have h2 : Nat.gcd x.natAbs y.natAbs = 1 := by omega
  unfold lowB at h
  simp [hy, h2] at h
theorem zero_sub_top {g : Int} (h : g.natAbs < top300) : okB (0 - g) = true := okB_top (by rw [Int.zero_sub, Int.natAbs_neg]; exact h)
set_option maxRecDepth 100000 in
set_option maxHeartbeats 4000000 in
theorem low_p {x y g : Int} (v0 v1 : Value) (w : World) (h0 : Iz w v0 (x)) (h1 : Iz w v1 (y)) (Hg : Hid (g = (Nat.gcd x.natAbs y.natAbs : Nat))) (hq : 0 < y) :
    Calls Tryz.prog 46 #[v0, v1] w (PF w (nm (fr x y)) (dn (fr x y))) := by
  obtain ⟨s0, A0, n0, c0, rfl⟩ := h0.agg
  obtain ⟨s1, A1, n1, c1, rfl⟩ := h1.agg
  have hupw : Up w w := Up.refl w
  go_enter Tryz.func46, Tryz.ntmps46
  go_wp2_with fail
  obtain ⟨wa1, hwa1⟩ : ∃ x, x = (((w.alloc (.cells #[.bool s0, .slice A0 n0 c0] 24)).alloc (.cells #[.bool s1, .slice A1 n1 c1] 24)).alloc (.cells #[.bool false, .slice none 0 0, .bool false, .slice none 0 0] 29)) := ⟨_, rfl⟩
  have hup : Up w wa1 := by rw [hwa1]; exact ((((Up.refl w).alloc _).alloc _).alloc _)
  have hzwa1 : w.heap.size ≤ w.heap.size := hupw.size
  replace h0 := h0.up hup
  replace h1 := h1.up hup
  replace hupw := hupw.trans hup
  clear hup
  have hk2 : Bk wa1 (w.heap.size) 24 #[.bool s0, .slice A0 n0 c0] := by
    have := (((Bk.new w 24 #[.bool s0, .slice A0 n0 c0]).alloc (.cells #[.bool s1, .slice A1 n1 c1] 24)).alloc (.cells #[.bool false, .slice none 0 0, .bool false, .slice none 0 0] 29))
    rw [hwa1]; simpa using this
  have hk3 : Bk wa1 (w.heap.size + 1) 24 #[.bool s1, .slice A1 n1 c1] := by
    have := ((Bk.new (w.alloc (.cells #[.bool s0, .slice A0 n0 c0] 24)) 24 #[.bool s1, .slice A1 n1 c1]).alloc (.cells #[.bool false, .slice none 0 0, .bool false, .slice none 0 0] 29))
    rw [hwa1]; simpa using this
  have hk4 : Bk wa1 (w.heap.size + 1 + 1) 29 #[.bool false, .slice none 0 0, .bool false, .slice none 0 0] := by
    have := (Bk.new ((w.alloc (.cells #[.bool s0, .slice A0 n0 c0] 24)).alloc (.cells #[.bool s1, .slice A1 n1 c1] 24)) 29 #[.bool false, .slice none 0 0, .bool false, .slice none 0 0])
    rw [hwa1]; simpa using this
  rw [← hwa1]
  clear hwa1
  refine (gcdG Hg h0 h1).mono ?_
  rintro e w2 ⟨v_3, rfl, h_3, hup⟩
  replace hk2 := hk2.up hup
  replace hk3 := hk3.up hup
  replace hk4 := hk4.up hup
  replace h0 := h0.up hup
  replace h1 := h1.up hup
  replace hupw := hupw.trans hup
  clear hup
  obtain ⟨s_3, A_3, n_3, c_3, rfl⟩ := h_3.agg
  have hk3c0 := hk3.cell (i := 0) rfl
  have hk3c1 := hk3.cell (i := 1) rfl
  have hk3l := hk3.lt
  go_wp2_with fail
  clear hk3c0 hk3c1 hk3l
  obtain ⟨wa4, hwa4⟩ : ∃ x, x = (w2.alloc (.cells #[.bool s_3, .slice A_3 n_3 c_3] 24)) := ⟨_, rfl⟩
  have hup : Up w2 wa4 := by rw [hwa4]; exact ((Up.refl w2).alloc _)
  have howa4 : (w.heap.size + 1 + 1) < w2.heap.size := hk4.lt
  have hzwa4 : w.heap.size ≤ w2.heap.size := hupw.size
  replace hk2 := hk2.up hup
  replace hk3 := hk3.up hup
  replace hk4 := hk4.up hup
  replace h0 := h0.up hup
  replace h1 := h1.up hup
  replace h_3 := h_3.up hup
  replace hupw := hupw.trans hup
  clear hup
  have hk5 : Bk wa4 (w2.heap.size) 24 #[.bool s_3, .slice A_3 n_3 c_3] := by
    have := (Bk.new w2 24 #[.bool s_3, .slice A_3 n_3 c_3])
    rw [hwa4]; simpa using this
  rw [← hwa4]
  clear hwa4
  refine (signQ 1 h1 (Int.sign_eq_one_of_pos hq)).mono ?_
  rintro e w5 ⟨rfl, hup⟩
  replace hk2 := hk2.up hup
  replace hk3 := hk3.up hup
  replace hk4 := hk4.up hup
  replace hk5 := hk5.up hup
  replace h0 := h0.up hup
  replace h1 := h1.up hup
  replace h_3 := h_3.up hup
  replace hupw := hupw.trans hup
  clear hup
  have hk2c0 := hk2.cell (i := 0) rfl
  have hk2c1 := hk2.cell (i := 1) rfl
  have hk2l := hk2.lt
  have hk5c0 := hk5.cell (i := 0) rfl
  have hk5c1 := hk5.cell (i := 1) rfl
  have hk5l := hk5.lt
  go_wp2_with fail
  clear hk2c0 hk2c1 hk2l hk5c0 hk5c1 hk5l
  refine (divQ h0 h_3 (g_ne Hg (by omega))).mono ?_
  rintro e w6 ⟨v_7, v_8, rfl, h_7, h_8, hup⟩
  replace hk2 := hk2.up hup
  replace hk3 := hk3.up hup
  replace hk4 := hk4.up hup
  replace hk5 := hk5.up hup
  replace h1 := h1.up hup
  replace h_3 := h_3.up hup
  replace hupw := hupw.trans hup
  clear hup
  obtain ⟨s_7, A_7, n_7, c_7, rfl⟩ := h_7.agg
  obtain ⟨s_8, A_8, n_8, c_8, rfl⟩ := h_8.agg
  have hk3c0 := hk3.cell (i := 0) rfl
  have hk3c1 := hk3.cell (i := 1) rfl
  have hk3l := hk3.lt
  have hk5c0 := hk5.cell (i := 0) rfl
  have hk5c1 := hk5.cell (i := 1) rfl
  have hk5l := hk5.lt
  have hk2c0 := hk2.cell (i := 0) rfl
  have hk2c1 := hk2.cell (i := 1) rfl
  have hk2l := hk2.lt
  have hk2f0 := hk2.frozen 0
  have hk2f1 := hk2.frozen 1
  go_wp2_with fail
  clear hk3c0 hk3c1 hk3l hk5c0 hk5c1 hk5l hk2c0 hk2c1 hk2l hk2f0 hk2f1
  obtain ⟨ws9, hws9⟩ : ∃ x, x = ((w6.setCell ⟨w.heap.size, 0, none⟩ (.bool s_7)).setCell ⟨w.heap.size, 1, none⟩ (.slice A_7 n_7 c_7)) := ⟨_, rfl⟩
  have h1' := h1.st2 hk2 (noU2 _ _ _ _) (.bool s_7) (.slice A_7 n_7 c_7)
  have h_3' := h_3.st2 hk2 (noU2 _ _ _ _) (.bool s_7) (.slice A_7 n_7 c_7)
  have h_7' := h_7.st2 hk2 (noU2 _ _ _ _) (.bool s_7) (.slice A_7 n_7 c_7)
  rw [← hws9] at h1'
  clear h1
  have h1 := h1'
  clear h1'
  rw [← hws9] at h_3'
  clear h_3
  have h_3 := h_3'
  clear h_3'
  rw [← hws9] at h_7'
  clear h_7
  have h_7 := h_7'
  clear h_7'
  replace hk3 := hk3.far2 (g' := w.heap.size) (by omega) (.bool s_7) (.slice A_7 n_7 c_7)
  rw [← hws9] at hk3
  replace hk4 := hk4.far2 (g' := w.heap.size) (by omega) (.bool s_7) (.slice A_7 n_7 c_7)
  rw [← hws9] at hk4
  replace hupw := hupw.two (g := w.heap.size) (by omega) (.bool s_7) (.slice A_7 n_7 c_7)
  rw [← hws9] at hupw
  replace hk2 := hk2.two_bk (.bool s_7) (.slice A_7 n_7 c_7)
  rw [← hws9] at hk2
  rw [← hws9]
  clear hws9
  refine (divQ h1 h_3 (g_ne Hg (by omega))).mono ?_
  rintro e w10 ⟨v_11, v_12, rfl, h_11, h_12, hup⟩
  replace hk2 := hk2.up hup
  replace hk3 := hk3.up hup
  replace hk4 := hk4.up hup
  replace h_7 := h_7.up hup
  replace hupw := hupw.trans hup
  clear hup
  obtain ⟨s_11, A_11, n_11, c_11, rfl⟩ := h_11.agg
  obtain ⟨s_12, A_12, n_12, c_12, rfl⟩ := h_12.agg
  have hk2c0 := hk2.cell (i := 0) rfl
  have hk2c1 := hk2.cell (i := 1) rfl
  have hk2l := hk2.lt
  have hk3c0 := hk3.cell (i := 0) rfl
  have hk3c1 := hk3.cell (i := 1) rfl
  have hk3l := hk3.lt
  have hk4c0 := hk4.cell (i := 0) rfl
  have hk4c1 := hk4.cell (i := 1) rfl
  have hk4c2 := hk4.cell (i := 2) rfl
  have hk4c3 := hk4.cell (i := 3) rfl
  have hk4l := hk4.lt
  have hk3f0 := hk3.frozen 0
  have hk3f1 := hk3.frozen 1
  have hk4f0 := hk4.frozen 0
  have hk4f1 := hk4.frozen 1
  have hk4f2 := hk4.frozen 2
  have hk4f3 := hk4.frozen 3
  go_wp2_with fail
  clear hk2c0 hk2c1 hk2l hk3c0 hk3c1 hk3l hk4c0 hk4c1 hk4c2 hk4c3 hk4l hk3f0 hk3f1 hk4f0 hk4f1 hk4f2 hk4f3
  obtain ⟨ws13, hws13⟩ : ∃ x, x = ((w10.setCell ⟨(w.heap.size + 1), 0, none⟩ (.bool s_11)).setCell ⟨(w.heap.size + 1), 1, none⟩ (.slice A_11 n_11 c_11)) := ⟨_, rfl⟩
  have h_7' := h_7.st2 hk3 (noU2 _ _ _ _) (.bool s_11) (.slice A_11 n_11 c_11)
  have h_11' := h_11.st2 hk3 (noU2 _ _ _ _) (.bool s_11) (.slice A_11 n_11 c_11)
  rw [← hws13] at h_7'
  clear h_7
  have h_7 := h_7'
  clear h_7'
  rw [← hws13] at h_11'
  clear h_11
  have h_11 := h_11'
  clear h_11'
  replace hk4 := hk4.far2 (g' := (w.heap.size + 1)) (by omega) (.bool s_11) (.slice A_11 n_11 c_11)
  rw [← hws13] at hk4
  replace hupw := hupw.two (g := (w.heap.size + 1)) (by omega) (.bool s_11) (.slice A_11 n_11 c_11)
  rw [← hws13] at hupw
  rw [← hws13]
  clear hws13
  obtain ⟨ws14, hws14⟩ : ∃ x, x = (st4 ws13 (w.heap.size + 1 + 1) (.bool s_7) (.slice A_7 n_7 c_7) (.bool s_11) (.slice A_11 n_11 c_11)) := ⟨_, rfl⟩
  have h_7' := h_7.st4 hk4 (noU4 _ _ _ _ _ _ _ _) (.bool s_7) (.slice A_7 n_7 c_7) (.bool s_11) (.slice A_11 n_11 c_11)
  have h_11' := h_11.st4 hk4 (noU4 _ _ _ _ _ _ _ _) (.bool s_7) (.slice A_7 n_7 c_7) (.bool s_11) (.slice A_11 n_11 c_11)
  rw [← hws14] at h_7'
  clear h_7
  have h_7 := h_7'
  clear h_7'
  rw [← hws14] at h_11'
  clear h_11
  have h_11 := h_11'
  clear h_11'
  replace hupw := hupw.st4 (g := (w.heap.size + 1 + 1)) (by omega) (.bool s_7) (.slice A_7 n_7 c_7) (.bool s_11) (.slice A_11 n_11 c_11)
  rw [← hws14] at hupw
  replace hk4 := hk4.four (.bool s_7) (.slice A_7 n_7 c_7) (.bool s_11) (.slice A_11 n_11 c_11)
  rw [← hws14] at hk4
  unfold st4 at hws14
  rw [← hws14]
  clear hws14
  have hk4c0 := hk4.cell (i := 0) rfl
  have hk4c1 := hk4.cell (i := 1) rfl
  have hk4c2 := hk4.cell (i := 2) rfl
  have hk4c3 := hk4.cell (i := 3) rfl
  exact bodyPost_ret (v := .agg #[.bool s_7, .slice A_7 n_7 c_7, .bool s_11, .slice A_11 n_11 c_11]) (by simp [results, Tryz.results46, go_sem, hk4c0, hk4c1, hk4c2, hk4c3]) rfl ⟨_, rfl, Fz.mk (h_7.congr (low_pos hq g Hg.out).1) (h_11.congr (low_pos hq g Hg.out).2), hupw⟩
set_option maxRecDepth 100000 in
set_option maxHeartbeats 4000000 in
theorem low_n {x y g : Int} (v0 v1 : Value) (w : World) (h0 : Iz w v0 (x)) (h1 : Iz w v1 (y)) (Hg : Hid (g = (Nat.gcd x.natAbs y.natAbs : Nat))) (hq : y < 0) :
    Calls Tryz.prog 46 #[v0, v1] w (PF w (nm (fr x y)) (dn (fr x y))) := by
  obtain ⟨s0, A0, n0, c0, rfl⟩ := h0.agg
  obtain ⟨s1, A1, n1, c1, rfl⟩ := h1.agg
  have hupw : Up w w := Up.refl w
  go_enter Tryz.func46, Tryz.ntmps46
  go_wp2_with fail
  obtain ⟨wa1, hwa1⟩ : ∃ x, x = (((w.alloc (.cells #[.bool s0, .slice A0 n0 c0] 24)).alloc (.cells #[.bool s1, .slice A1 n1 c1] 24)).alloc (.cells #[.bool false, .slice none 0 0, .bool false, .slice none 0 0] 29)) := ⟨_, rfl⟩
  have hup : Up w wa1 := by rw [hwa1]; exact ((((Up.refl w).alloc _).alloc _).alloc _)
  have hzwa1 : w.heap.size ≤ w.heap.size := hupw.size
  replace h0 := h0.up hup
  replace h1 := h1.up hup
  replace hupw := hupw.trans hup
  clear hup
  have hk2 : Bk wa1 (w.heap.size) 24 #[.bool s0, .slice A0 n0 c0] := by
    have := (((Bk.new w 24 #[.bool s0, .slice A0 n0 c0]).alloc (.cells #[.bool s1, .slice A1 n1 c1] 24)).alloc (.cells #[.bool false, .slice none 0 0, .bool false, .slice none 0 0] 29))
    rw [hwa1]; simpa using this
  have hk3 : Bk wa1 (w.heap.size + 1) 24 #[.bool s1, .slice A1 n1 c1] := by
    have := ((Bk.new (w.alloc (.cells #[.bool s0, .slice A0 n0 c0] 24)) 24 #[.bool s1, .slice A1 n1 c1]).alloc (.cells #[.bool false, .slice none 0 0, .bool false, .slice none 0 0] 29))
    rw [hwa1]; simpa using this
  have hk4 : Bk wa1 (w.heap.size + 1 + 1) 29 #[.bool false, .slice none 0 0, .bool false, .slice none 0 0] := by
    have := (Bk.new ((w.alloc (.cells #[.bool s0, .slice A0 n0 c0] 24)).alloc (.cells #[.bool s1, .slice A1 n1 c1] 24)) 29 #[.bool false, .slice none 0 0, .bool false, .slice none 0 0])
    rw [hwa1]; simpa using this
  rw [← hwa1]
  clear hwa1
  refine (gcdG Hg h0 h1).mono ?_
  rintro e w2 ⟨v_3, rfl, h_3, hup⟩
  replace hk2 := hk2.up hup
  replace hk3 := hk3.up hup
  replace hk4 := hk4.up hup
  replace h0 := h0.up hup
  replace h1 := h1.up hup
  replace hupw := hupw.trans hup
  clear hup
  obtain ⟨s_3, A_3, n_3, c_3, rfl⟩ := h_3.agg
  have hk3c0 := hk3.cell (i := 0) rfl
  have hk3c1 := hk3.cell (i := 1) rfl
  have hk3l := hk3.lt
  go_wp2_with fail
  clear hk3c0 hk3c1 hk3l
  obtain ⟨wa4, hwa4⟩ : ∃ x, x = (w2.alloc (.cells #[.bool s_3, .slice A_3 n_3 c_3] 24)) := ⟨_, rfl⟩
  have hup : Up w2 wa4 := by rw [hwa4]; exact ((Up.refl w2).alloc _)
  have howa4 : (w.heap.size + 1 + 1) < w2.heap.size := hk4.lt
  have hzwa4 : w.heap.size ≤ w2.heap.size := hupw.size
  replace hk2 := hk2.up hup
  replace hk3 := hk3.up hup
  replace hk4 := hk4.up hup
  replace h0 := h0.up hup
  replace h1 := h1.up hup
  replace h_3 := h_3.up hup
  replace hupw := hupw.trans hup
  clear hup
  have hk5 : Bk wa4 (w2.heap.size) 24 #[.bool s_3, .slice A_3 n_3 c_3] := by
    have := (Bk.new w2 24 #[.bool s_3, .slice A_3 n_3 c_3])
    rw [hwa4]; simpa using this
  rw [← hwa4]
  clear hwa4
  refine (signQ (-1) h1 (Int.sign_eq_neg_one_of_neg hq)).mono ?_
  rintro e w5 ⟨rfl, hup⟩
  replace hk2 := hk2.up hup
  replace hk3 := hk3.up hup
  replace hk4 := hk4.up hup
  replace hk5 := hk5.up hup
  replace h0 := h0.up hup
  replace h1 := h1.up hup
  replace h_3 := h_3.up hup
  replace hupw := hupw.trans hup
  clear hup
  have hk5c0 := hk5.cell (i := 0) rfl
  have hk5c1 := hk5.cell (i := 1) rfl
  have hk5l := hk5.lt
  go_wp2_with fail
  clear hk5c0 hk5c1 hk5l
  refine (subQ (Iz.zero _) h_3 (zero_sub_top h_3.2)).mono ?_
  rintro e w6 ⟨v_7, rfl, h_7, hup⟩
  replace hk2 := hk2.up hup
  replace hk3 := hk3.up hup
  replace hk4 := hk4.up hup
  replace hk5 := hk5.up hup
  replace h0 := h0.up hup
  replace h1 := h1.up hup
  replace hupw := hupw.trans hup
  clear hup
  obtain ⟨s_7, A_7, n_7, c_7, rfl⟩ := h_7.agg
  have hk2c0 := hk2.cell (i := 0) rfl
  have hk2c1 := hk2.cell (i := 1) rfl
  have hk2l := hk2.lt
  have hk5c0 := hk5.cell (i := 0) rfl
  have hk5c1 := hk5.cell (i := 1) rfl
  have hk5l := hk5.lt
  have hk5f0 := hk5.frozen 0
  have hk5f1 := hk5.frozen 1
  go_wp2_with fail
  clear hk2c0 hk2c1 hk2l hk5c0 hk5c1 hk5l hk5f0 hk5f1
  obtain ⟨ws8, hws8⟩ : ∃ x, x = ((w6.setCell ⟨w2.heap.size, 0, none⟩ (.bool s_7)).setCell ⟨w2.heap.size, 1, none⟩ (.slice A_7 n_7 c_7)) := ⟨_, rfl⟩
  have h0' := h0.st2 hk5 (noU2 _ _ _ _) (.bool s_7) (.slice A_7 n_7 c_7)
  have h1' := h1.st2 hk5 (noU2 _ _ _ _) (.bool s_7) (.slice A_7 n_7 c_7)
  have h_7' := h_7.st2 hk5 (noU2 _ _ _ _) (.bool s_7) (.slice A_7 n_7 c_7)
  rw [← hws8] at h0'
  clear h0
  have h0 := h0'
  clear h0'
  rw [← hws8] at h1'
  clear h1
  have h1 := h1'
  clear h1'
  rw [← hws8] at h_7'
  clear h_7
  have h_7 := h_7'
  clear h_7'
  replace hk2 := hk2.far2 (g' := w2.heap.size) (by omega) (.bool s_7) (.slice A_7 n_7 c_7)
  rw [← hws8] at hk2
  replace hk3 := hk3.far2 (g' := w2.heap.size) (by omega) (.bool s_7) (.slice A_7 n_7 c_7)
  rw [← hws8] at hk3
  replace hk4 := hk4.far2 (g' := w2.heap.size) (by omega) (.bool s_7) (.slice A_7 n_7 c_7)
  rw [← hws8] at hk4
  replace hupw := hupw.two (g := w2.heap.size) (by omega) (.bool s_7) (.slice A_7 n_7 c_7)
  rw [← hws8] at hupw
  replace hk5 := hk5.two_bk (.bool s_7) (.slice A_7 n_7 c_7)
  rw [← hws8] at hk5
  rw [← hws8]
  clear hws8
  refine (divQ h0 h_7 (by have := g_ne Hg (by omega : y ≠ 0); omega)).mono ?_
  rintro e w9 ⟨v_10, v_11, rfl, h_10, h_11, hup⟩
  replace hk2 := hk2.up hup
  replace hk3 := hk3.up hup
  replace hk4 := hk4.up hup
  replace hk5 := hk5.up hup
  replace h1 := h1.up hup
  replace h_7 := h_7.up hup
  replace hupw := hupw.trans hup
  clear hup
  obtain ⟨s_10, A_10, n_10, c_10, rfl⟩ := h_10.agg
  obtain ⟨s_11, A_11, n_11, c_11, rfl⟩ := h_11.agg
  have hk3c0 := hk3.cell (i := 0) rfl
  have hk3c1 := hk3.cell (i := 1) rfl
  have hk3l := hk3.lt
  have hk5c0 := hk5.cell (i := 0) rfl
  have hk5c1 := hk5.cell (i := 1) rfl
  have hk5l := hk5.lt
  have hk2c0 := hk2.cell (i := 0) rfl
  have hk2c1 := hk2.cell (i := 1) rfl
  have hk2l := hk2.lt
  have hk2f0 := hk2.frozen 0
  have hk2f1 := hk2.frozen 1
  go_wp2_with fail
  clear hk3c0 hk3c1 hk3l hk5c0 hk5c1 hk5l hk2c0 hk2c1 hk2l hk2f0 hk2f1
  obtain ⟨ws12, hws12⟩ : ∃ x, x = ((w9.setCell ⟨w.heap.size, 0, none⟩ (.bool s_10)).setCell ⟨w.heap.size, 1, none⟩ (.slice A_10 n_10 c_10)) := ⟨_, rfl⟩
  have h1' := h1.st2 hk2 (noU2 _ _ _ _) (.bool s_10) (.slice A_10 n_10 c_10)
  have h_7' := h_7.st2 hk2 (noU2 _ _ _ _) (.bool s_10) (.slice A_10 n_10 c_10)
  have h_10' := h_10.st2 hk2 (noU2 _ _ _ _) (.bool s_10) (.slice A_10 n_10 c_10)
  rw [← hws12] at h1'
  clear h1
  have h1 := h1'
  clear h1'
  rw [← hws12] at h_7'
  clear h_7
  have h_7 := h_7'
  clear h_7'
  rw [← hws12] at h_10'
  clear h_10
  have h_10 := h_10'
  clear h_10'
  replace hk3 := hk3.far2 (g' := w.heap.size) (by omega) (.bool s_10) (.slice A_10 n_10 c_10)
  rw [← hws12] at hk3
  replace hk4 := hk4.far2 (g' := w.heap.size) (by omega) (.bool s_10) (.slice A_10 n_10 c_10)
  rw [← hws12] at hk4
  replace hupw := hupw.two (g := w.heap.size) (by omega) (.bool s_10) (.slice A_10 n_10 c_10)
  rw [← hws12] at hupw
  replace hk2 := hk2.two_bk (.bool s_10) (.slice A_10 n_10 c_10)
  rw [← hws12] at hk2
  rw [← hws12]
  clear hws12
  refine (divQ h1 h_7 (by have := g_ne Hg (by omega : y ≠ 0); omega)).mono ?_
  rintro e w13 ⟨v_14, v_15, rfl, h_14, h_15, hup⟩
  replace hk2 := hk2.up hup
  replace hk3 := hk3.up hup
  replace hk4 := hk4.up hup
  replace h_10 := h_10.up hup
  replace hupw := hupw.trans hup
  clear hup
  obtain ⟨s_14, A_14, n_14, c_14, rfl⟩ := h_14.agg
  obtain ⟨s_15, A_15, n_15, c_15, rfl⟩ := h_15.agg
  have hk2c0 := hk2.cell (i := 0) rfl
  have hk2c1 := hk2.cell (i := 1) rfl
  have hk2l := hk2.lt
  have hk3c0 := hk3.cell (i := 0) rfl
  have hk3c1 := hk3.cell (i := 1) rfl
  have hk3l := hk3.lt
  have hk4c0 := hk4.cell (i := 0) rfl
  have hk4c1 := hk4.cell (i := 1) rfl
  have hk4c2 := hk4.cell (i := 2) rfl
  have hk4c3 := hk4.cell (i := 3) rfl
  have hk4l := hk4.lt
  have hk3f0 := hk3.frozen 0
  have hk3f1 := hk3.frozen 1
  have hk4f0 := hk4.frozen 0
  have hk4f1 := hk4.frozen 1
  have hk4f2 := hk4.frozen 2
  have hk4f3 := hk4.frozen 3
  go_wp2_with fail
  clear hk2c0 hk2c1 hk2l hk3c0 hk3c1 hk3l hk4c0 hk4c1 hk4c2 hk4c3 hk4l hk3f0 hk3f1 hk4f0 hk4f1 hk4f2 hk4f3
  obtain ⟨ws16, hws16⟩ : ∃ x, x = ((w13.setCell ⟨(w.heap.size + 1), 0, none⟩ (.bool s_14)).setCell ⟨(w.heap.size + 1), 1, none⟩ (.slice A_14 n_14 c_14)) := ⟨_, rfl⟩
  have h_10' := h_10.st2 hk3 (noU2 _ _ _ _) (.bool s_14) (.slice A_14 n_14 c_14)
  have h_14' := h_14.st2 hk3 (noU2 _ _ _ _) (.bool s_14) (.slice A_14 n_14 c_14)
  rw [← hws16] at h_10'
  clear h_10
  have h_10 := h_10'
  clear h_10'
  rw [← hws16] at h_14'
  clear h_14
  have h_14 := h_14'
  clear h_14'
  replace hk4 := hk4.far2 (g' := (w.heap.size + 1)) (by omega) (.bool s_14) (.slice A_14 n_14 c_14)
  rw [← hws16] at hk4
  replace hupw := hupw.two (g := (w.heap.size + 1)) (by omega) (.bool s_14) (.slice A_14 n_14 c_14)
  rw [← hws16] at hupw
  rw [← hws16]
  clear hws16
  obtain ⟨ws17, hws17⟩ : ∃ x, x = (st4 ws16 (w.heap.size + 1 + 1) (.bool s_10) (.slice A_10 n_10 c_10) (.bool s_14) (.slice A_14 n_14 c_14)) := ⟨_, rfl⟩
  have h_10' := h_10.st4 hk4 (noU4 _ _ _ _ _ _ _ _) (.bool s_10) (.slice A_10 n_10 c_10) (.bool s_14) (.slice A_14 n_14 c_14)
  have h_14' := h_14.st4 hk4 (noU4 _ _ _ _ _ _ _ _) (.bool s_10) (.slice A_10 n_10 c_10) (.bool s_14) (.slice A_14 n_14 c_14)
  rw [← hws17] at h_10'
  clear h_10
  have h_10 := h_10'
  clear h_10'
  rw [← hws17] at h_14'
  clear h_14
  have h_14 := h_14'
  clear h_14'
  replace hupw := hupw.st4 (g := (w.heap.size + 1 + 1)) (by omega) (.bool s_10) (.slice A_10 n_10 c_10) (.bool s_14) (.slice A_14 n_14 c_14)
  rw [← hws17] at hupw
  replace hk4 := hk4.four (.bool s_10) (.slice A_10 n_10 c_10) (.bool s_14) (.slice A_14 n_14 c_14)
  rw [← hws17] at hk4
  unfold st4 at hws17
  rw [← hws17]
  clear hws17
  have hk4c0 := hk4.cell (i := 0) rfl
  have hk4c1 := hk4.cell (i := 1) rfl
  have hk4c2 := hk4.cell (i := 2) rfl
  have hk4c3 := hk4.cell (i := 3) rfl
  exact bodyPost_ret (v := .agg #[.bool s_10, .slice A_10 n_10 c_10, .bool s_14, .slice A_14 n_14 c_14]) (by simp [results, Tryz.results46, go_sem, hk4c0, hk4c1, hk4c2, hk4c3]) rfl ⟨_, rfl, Fz.mk (h_10.congr (low_neg hq (0 - g) (by rw [Hg.out]; omega)).1) (h_14.congr (low_neg hq (0 - g) (by rw [Hg.out]; omega)).2), hupw⟩
theorem lowQ {w : World} {v v' : Value} {x y : Int} (h : Iz w v x) (h' : Iz w v' y) (hy : y ≠ 0) : Calls Tryz.prog 46 #[v, v'] w (PF w (nm (fr x y)) (dn (fr x y))) := by
  rcases Int.lt_or_gt_of_ne hy with hq | hq
  · exact low_n v v' w h h' rfl hq
  · exact low_p v v' w h h' rfl hq
set_option maxRecDepth 100000 in
set_option maxHeartbeats 4000000 in
theorem prod_no1 {x y z u : Int} (v0 v1 v2 v3 : Value) (w : World) (h0 : Iz w v0 (x)) (h1 : Iz w v1 (y)) (h2 : Iz w v2 (z)) (h3 : Iz w v3 (u)) (hz : okB (x * y) = false) :
    Calls Tryz.prog 59 #[v0, v1, v2, v3] w (PIIE w 0 0 3) := by
  obtain ⟨s0, A0, n0, c0, rfl⟩ := h0.agg
  obtain ⟨s1, A1, n1, c1, rfl⟩ := h1.agg
  obtain ⟨s2, A2, n2, c2, rfl⟩ := h2.agg
  obtain ⟨s3, A3, n3, c3, rfl⟩ := h3.agg
  have hupw : Up w w := Up.refl w
  go_enter Tryz.func59, Tryz.ntmps59
  go_wp2_with fail
  obtain ⟨wa1, hwa1⟩ : ∃ x, x = ((((((w.alloc (.cells #[.bool s0, .slice A0 n0 c0] 24)).alloc (.cells #[.bool s1, .slice A1 n1 c1] 24)).alloc (.cells #[.bool s2, .slice A2 n2 c2] 24)).alloc (.cells #[.bool s3, .slice A3 n3 c3] 24)).alloc (.cells #[.bool false, .slice none 0 0] 24)).alloc (.cells #[.bool false, .slice none 0 0] 24)) := ⟨_, rfl⟩
  have hup : Up w wa1 := by rw [hwa1]; exact (((((((Up.refl w).alloc _).alloc _).alloc _).alloc _).alloc _).alloc _)
  have hzwa1 : w.heap.size ≤ w.heap.size := hupw.size
  replace h0 := h0.up hup
  replace h1 := h1.up hup
  replace hupw := hupw.trans hup
  clear hup
  have hk4 : Bk wa1 (w.heap.size) 24 #[.bool s0, .slice A0 n0 c0] := by
    have := ((((((Bk.new w 24 #[.bool s0, .slice A0 n0 c0]).alloc (.cells #[.bool s1, .slice A1 n1 c1] 24)).alloc (.cells #[.bool s2, .slice A2 n2 c2] 24)).alloc (.cells #[.bool s3, .slice A3 n3 c3] 24)).alloc (.cells #[.bool false, .slice none 0 0] 24)).alloc (.cells #[.bool false, .slice none 0 0] 24))
    rw [hwa1]; simpa using this
  have hk5 : Bk wa1 (w.heap.size + 1) 24 #[.bool s1, .slice A1 n1 c1] := by
    have := (((((Bk.new (w.alloc (.cells #[.bool s0, .slice A0 n0 c0] 24)) 24 #[.bool s1, .slice A1 n1 c1]).alloc (.cells #[.bool s2, .slice A2 n2 c2] 24)).alloc (.cells #[.bool s3, .slice A3 n3 c3] 24)).alloc (.cells #[.bool false, .slice none 0 0] 24)).alloc (.cells #[.bool false, .slice none 0 0] 24))
    rw [hwa1]; simpa using this
  have hk6 : Bk wa1 (w.heap.size + 1 + 1) 24 #[.bool s2, .slice A2 n2 c2] := by
    have := ((((Bk.new ((w.alloc (.cells #[.bool s0, .slice A0 n0 c0] 24)).alloc (.cells #[.bool s1, .slice A1 n1 c1] 24)) 24 #[.bool s2, .slice A2 n2 c2]).alloc (.cells #[.bool s3, .slice A3 n3 c3] 24)).alloc (.cells #[.bool false, .slice none 0 0] 24)).alloc (.cells #[.bool false, .slice none 0 0] 24))
    rw [hwa1]; simpa using this
  have hk7 : Bk wa1 (w.heap.size + 1 + 1 + 1) 24 #[.bool s3, .slice A3 n3 c3] := by
    have := (((Bk.new (((w.alloc (.cells #[.bool s0, .slice A0 n0 c0] 24)).alloc (.cells #[.bool s1, .slice A1 n1 c1] 24)).alloc (.cells #[.bool s2, .slice A2 n2 c2] 24)) 24 #[.bool s3, .slice A3 n3 c3]).alloc (.cells #[.bool false, .slice none 0 0] 24)).alloc (.cells #[.bool false, .slice none 0 0] 24))
    rw [hwa1]; simpa using this
  have hk8 : Bk wa1 (w.heap.size + 1 + 1 + 1 + 1) 24 #[.bool false, .slice none 0 0] := by
    have := ((Bk.new ((((w.alloc (.cells #[.bool s0, .slice A0 n0 c0] 24)).alloc (.cells #[.bool s1, .slice A1 n1 c1] 24)).alloc (.cells #[.bool s2, .slice A2 n2 c2] 24)).alloc (.cells #[.bool s3, .slice A3 n3 c3] 24)) 24 #[.bool false, .slice none 0 0]).alloc (.cells #[.bool false, .slice none 0 0] 24))
    rw [hwa1]; simpa using this
  have hk9 : Bk wa1 (w.heap.size + 1 + 1 + 1 + 1 + 1) 24 #[.bool false, .slice none 0 0] := by
    have := (Bk.new (((((w.alloc (.cells #[.bool s0, .slice A0 n0 c0] 24)).alloc (.cells #[.bool s1, .slice A1 n1 c1] 24)).alloc (.cells #[.bool s2, .slice A2 n2 c2] 24)).alloc (.cells #[.bool s3, .slice A3 n3 c3] 24)).alloc (.cells #[.bool false, .slice none 0 0] 24)) 24 #[.bool false, .slice none 0 0])
    rw [hwa1]; simpa using this
  rw [← hwa1]
  clear hwa1
  refine (mulN h0 h1 hz).mono ?_
  rintro e w2 ⟨v_3, rfl, h_3, hup⟩
  replace hk8 := hk8.up hup
  replace hk9 := hk9.up hup
  replace hupw := hupw.trans hup
  clear hup
  obtain ⟨s_3, A_3, n_3, c_3, rfl⟩ := h_3.agg
  have hk8c0 := hk8.cell (i := 0) rfl
  have hk8c1 := hk8.cell (i := 1) rfl
  have hk8l := hk8.lt
  have hk9c0 := hk9.cell (i := 0) rfl
  have hk9c1 := hk9.cell (i := 1) rfl
  have hk9l := hk9.lt
  have hk8f0 := hk8.frozen 0
  have hk8f1 := hk8.frozen 1
  have hk9f0 := hk9.frozen 0
  have hk9f1 := hk9.frozen 1
  go_wp2_with fail
  clear hk8c0 hk8c1 hk8l hk9c0 hk9c1 hk9l hk8f0 hk8f1 hk9f0 hk9f1
  obtain ⟨ws4, hws4⟩ : ∃ x, x = ((w2.setCell ⟨(w.heap.size + 1 + 1 + 1 + 1), 0, none⟩ (.bool s_3)).setCell ⟨(w.heap.size + 1 + 1 + 1 + 1), 1, none⟩ (.slice A_3 n_3 c_3)) := ⟨_, rfl⟩
  replace hk9 := hk9.far2 (g' := (w.heap.size + 1 + 1 + 1 + 1)) (by omega) (.bool s_3) (.slice A_3 n_3 c_3)
  rw [← hws4] at hk9
  replace hupw := hupw.two (g := (w.heap.size + 1 + 1 + 1 + 1)) (by omega) (.bool s_3) (.slice A_3 n_3 c_3)
  rw [← hws4] at hupw
  replace hk8 := hk8.two_bk (.bool s_3) (.slice A_3 n_3 c_3)
  rw [← hws4] at hk8
  rw [← hws4]
  clear hws4
  obtain ⟨ws5, hws5⟩ : ∃ x, x = ((ws4.setCell ⟨(w.heap.size + 1 + 1 + 1 + 1), 0, none⟩ (.bool false)).setCell ⟨(w.heap.size + 1 + 1 + 1 + 1), 1, none⟩ (.slice none 0 0)) := ⟨_, rfl⟩
  replace hk9 := hk9.far2 (g' := (w.heap.size + 1 + 1 + 1 + 1)) (by omega) (.bool false) (.slice none 0 0)
  rw [← hws5] at hk9
  replace hupw := hupw.two (g := (w.heap.size + 1 + 1 + 1 + 1)) (by omega) (.bool false) (.slice none 0 0)
  rw [← hws5] at hupw
  replace hk8 := hk8.two_bk (.bool false) (.slice none 0 0)
  rw [← hws5] at hk8
  rw [← hws5]
  clear hws5
  obtain ⟨ws6, hws6⟩ : ∃ x, x = ((ws5.setCell ⟨(w.heap.size + 1 + 1 + 1 + 1 + 1), 0, none⟩ (.bool false)).setCell ⟨(w.heap.size + 1 + 1 + 1 + 1 + 1), 1, none⟩ (.slice none 0 0)) := ⟨_, rfl⟩
  replace hk8 := hk8.far2 (g' := (w.heap.size + 1 + 1 + 1 + 1 + 1)) (by omega) (.bool false) (.slice none 0 0)
  rw [← hws6] at hk8
  replace hupw := hupw.two (g := (w.heap.size + 1 + 1 + 1 + 1 + 1)) (by omega) (.bool false) (.slice none 0 0)
  rw [← hws6] at hupw
  replace hk9 := hk9.two_bk (.bool false) (.slice none 0 0)
  rw [← hws6] at hk9
  rw [← hws6]
  clear hws6
  have hk8c0 := hk8.cell (i := 0) rfl
  have hk8c1 := hk8.cell (i := 1) rfl
  have hk9c0 := hk9.cell (i := 0) rfl
  have hk9c1 := hk9.cell (i := 1) rfl
  exact bodyPost_ret (v := .tuple #[.agg #[.bool false, .slice none 0 0], .agg #[.bool false, .slice none 0 0], .int .i64 3]) (by simp [results, Tryz.results59, go_sem, hk8c0, hk8c1, hk9c0, hk9c1]) rfl ⟨_, _, rfl, (Iz.zero _), (Iz.zero _), hupw⟩
set_option maxRecDepth 100000 in
set_option maxHeartbeats 4000000 in
theorem prod_no2 {x y z u : Int} (v0 v1 v2 v3 : Value) (w : World) (h0 : Iz w v0 (x)) (h1 : Iz w v1 (y)) (h2 : Iz w v2 (z)) (h3 : Iz w v3 (u)) (hz : okB (x * y) = true) (hz2 : okB (z * u) = false) :
    Calls Tryz.prog 59 #[v0, v1, v2, v3] w (PIIE w 0 0 3) := by
  obtain ⟨s0, A0, n0, c0, rfl⟩ := h0.agg
  obtain ⟨s1, A1, n1, c1, rfl⟩ := h1.agg
  obtain ⟨s2, A2, n2, c2, rfl⟩ := h2.agg
  obtain ⟨s3, A3, n3, c3, rfl⟩ := h3.agg
  have hupw : Up w w := Up.refl w
  go_enter Tryz.func59, Tryz.ntmps59
  go_wp2_with fail
  obtain ⟨wa1, hwa1⟩ : ∃ x, x = ((((((w.alloc (.cells #[.bool s0, .slice A0 n0 c0] 24)).alloc (.cells #[.bool s1, .slice A1 n1 c1] 24)).alloc (.cells #[.bool s2, .slice A2 n2 c2] 24)).alloc (.cells #[.bool s3, .slice A3 n3 c3] 24)).alloc (.cells #[.bool false, .slice none 0 0] 24)).alloc (.cells #[.bool false, .slice none 0 0] 24)) := ⟨_, rfl⟩
  have hup : Up w wa1 := by rw [hwa1]; exact (((((((Up.refl w).alloc _).alloc _).alloc _).alloc _).alloc _).alloc _)
  have hzwa1 : w.heap.size ≤ w.heap.size := hupw.size
  replace h0 := h0.up hup
  replace h1 := h1.up hup
  replace h2 := h2.up hup
  replace h3 := h3.up hup
  replace hupw := hupw.trans hup
  clear hup
  have hk4 : Bk wa1 (w.heap.size) 24 #[.bool s0, .slice A0 n0 c0] := by
    have := ((((((Bk.new w 24 #[.bool s0, .slice A0 n0 c0]).alloc (.cells #[.bool s1, .slice A1 n1 c1] 24)).alloc (.cells #[.bool s2, .slice A2 n2 c2] 24)).alloc (.cells #[.bool s3, .slice A3 n3 c3] 24)).alloc (.cells #[.bool false, .slice none 0 0] 24)).alloc (.cells #[.bool false, .slice none 0 0] 24))
    rw [hwa1]; simpa using this
  have hk5 : Bk wa1 (w.heap.size + 1) 24 #[.bool s1, .slice A1 n1 c1] := by
    have := (((((Bk.new (w.alloc (.cells #[.bool s0, .slice A0 n0 c0] 24)) 24 #[.bool s1, .slice A1 n1 c1]).alloc (.cells #[.bool s2, .slice A2 n2 c2] 24)).alloc (.cells #[.bool s3, .slice A3 n3 c3] 24)).alloc (.cells #[.bool false, .slice none 0 0] 24)).alloc (.cells #[.bool false, .slice none 0 0] 24))
    rw [hwa1]; simpa using this
  have hk6 : Bk wa1 (w.heap.size + 1 + 1) 24 #[.bool s2, .slice A2 n2 c2] := by
    have := ((((Bk.new ((w.alloc (.cells #[.bool s0, .slice A0 n0 c0] 24)).alloc (.cells #[.bool s1, .slice A1 n1 c1] 24)) 24 #[.bool s2, .slice A2 n2 c2]).alloc (.cells #[.bool s3, .slice A3 n3 c3] 24)).alloc (.cells #[.bool false, .slice none 0 0] 24)).alloc (.cells #[.bool false, .slice none 0 0] 24))
    rw [hwa1]; simpa using this
  have hk7 : Bk wa1 (w.heap.size + 1 + 1 + 1) 24 #[.bool s3, .slice A3 n3 c3] := by
    have := (((Bk.new (((w.alloc (.cells #[.bool s0, .slice A0 n0 c0] 24)).alloc (.cells #[.bool s1, .slice A1 n1 c1] 24)).alloc (.cells #[.bool s2, .slice A2 n2 c2] 24)) 24 #[.bool s3, .slice A3 n3 c3]).alloc (.cells #[.bool false, .slice none 0 0] 24)).alloc (.cells #[.bool false, .slice none 0 0] 24))
    rw [hwa1]; simpa using this
  have hk8 : Bk wa1 (w.heap.size + 1 + 1 + 1 + 1) 24 #[.bool false, .slice none 0 0] := by
    have := ((Bk.new ((((w.alloc (.cells #[.bool s0, .slice A0 n0 c0] 24)).alloc (.cells #[.bool s1, .slice A1 n1 c1] 24)).alloc (.cells #[.bool s2, .slice A2 n2 c2] 24)).alloc (.cells #[.bool s3, .slice A3 n3 c3] 24)) 24 #[.bool false, .slice none 0 0]).alloc (.cells #[.bool false, .slice none 0 0] 24))
    rw [hwa1]; simpa using this
  have hk9 : Bk wa1 (w.heap.size + 1 + 1 + 1 + 1 + 1) 24 #[.bool false, .slice none 0 0] := by
    have := (Bk.new (((((w.alloc (.cells #[.bool s0, .slice A0 n0 c0] 24)).alloc (.cells #[.bool s1, .slice A1 n1 c1] 24)).alloc (.cells #[.bool s2, .slice A2 n2 c2] 24)).alloc (.cells #[.bool s3, .slice A3 n3 c3] 24)).alloc (.cells #[.bool false, .slice none 0 0] 24)) 24 #[.bool false, .slice none 0 0])
    rw [hwa1]; simpa using this
  rw [← hwa1]
  clear hwa1
  refine (mulQ h0 h1 hz).mono ?_
  rintro e w2 ⟨v_3, rfl, h_3, hup⟩
  replace hk6 := hk6.up hup
  replace hk7 := hk7.up hup
  replace hk8 := hk8.up hup
  replace hk9 := hk9.up hup
  replace h2 := h2.up hup
  replace h3 := h3.up hup
  replace hupw := hupw.trans hup
  clear hup
  obtain ⟨s_3, A_3, n_3, c_3, rfl⟩ := h_3.agg
  have hk6c0 := hk6.cell (i := 0) rfl
  have hk6c1 := hk6.cell (i := 1) rfl
  have hk6l := hk6.lt
  have hk7c0 := hk7.cell (i := 0) rfl
  have hk7c1 := hk7.cell (i := 1) rfl
  have hk7l := hk7.lt
  have hk8c0 := hk8.cell (i := 0) rfl
  have hk8c1 := hk8.cell (i := 1) rfl
  have hk8l := hk8.lt
  have hk8f0 := hk8.frozen 0
  have hk8f1 := hk8.frozen 1
  go_wp2_with fail
  clear hk6c0 hk6c1 hk6l hk7c0 hk7c1 hk7l hk8c0 hk8c1 hk8l hk8f0 hk8f1
  obtain ⟨ws4, hws4⟩ : ∃ x, x = ((w2.setCell ⟨(w.heap.size + 1 + 1 + 1 + 1), 0, none⟩ (.bool s_3)).setCell ⟨(w.heap.size + 1 + 1 + 1 + 1), 1, none⟩ (.slice A_3 n_3 c_3)) := ⟨_, rfl⟩
  have h2' := h2.st2 hk8 (noU2 _ _ _ _) (.bool s_3) (.slice A_3 n_3 c_3)
  have h3' := h3.st2 hk8 (noU2 _ _ _ _) (.bool s_3) (.slice A_3 n_3 c_3)
  rw [← hws4] at h2'
  clear h2
  have h2 := h2'
  clear h2'
  rw [← hws4] at h3'
  clear h3
  have h3 := h3'
  clear h3'
  replace hk9 := hk9.far2 (g' := (w.heap.size + 1 + 1 + 1 + 1)) (by omega) (.bool s_3) (.slice A_3 n_3 c_3)
  rw [← hws4] at hk9
  replace hupw := hupw.two (g := (w.heap.size + 1 + 1 + 1 + 1)) (by omega) (.bool s_3) (.slice A_3 n_3 c_3)
  rw [← hws4] at hupw
  replace hk8 := hk8.two_bk (.bool s_3) (.slice A_3 n_3 c_3)
  rw [← hws4] at hk8
  rw [← hws4]
  clear hws4
  refine (mulN h2 h3 hz2).mono ?_
  rintro e w5 ⟨v_6, rfl, h_6, hup⟩
  replace hk8 := hk8.up hup
  replace hk9 := hk9.up hup
  replace hupw := hupw.trans hup
  clear hup
  obtain ⟨s_6, A_6, n_6, c_6, rfl⟩ := h_6.agg
  have hk9c0 := hk9.cell (i := 0) rfl
  have hk9c1 := hk9.cell (i := 1) rfl
  have hk9l := hk9.lt
  have hk8c0 := hk8.cell (i := 0) rfl
  have hk8c1 := hk8.cell (i := 1) rfl
  have hk8l := hk8.lt
  have hk9f0 := hk9.frozen 0
  have hk9f1 := hk9.frozen 1
  have hk8f0 := hk8.frozen 0
  have hk8f1 := hk8.frozen 1
  go_wp2_with fail
  clear hk9c0 hk9c1 hk9l hk8c0 hk8c1 hk8l hk9f0 hk9f1 hk8f0 hk8f1
  obtain ⟨ws7, hws7⟩ : ∃ x, x = ((w5.setCell ⟨(w.heap.size + 1 + 1 + 1 + 1 + 1), 0, none⟩ (.bool s_6)).setCell ⟨(w.heap.size + 1 + 1 + 1 + 1 + 1), 1, none⟩ (.slice A_6 n_6 c_6)) := ⟨_, rfl⟩
  replace hk8 := hk8.far2 (g' := (w.heap.size + 1 + 1 + 1 + 1 + 1)) (by omega) (.bool s_6) (.slice A_6 n_6 c_6)
  rw [← hws7] at hk8
  replace hupw := hupw.two (g := (w.heap.size + 1 + 1 + 1 + 1 + 1)) (by omega) (.bool s_6) (.slice A_6 n_6 c_6)
  rw [← hws7] at hupw
  replace hk9 := hk9.two_bk (.bool s_6) (.slice A_6 n_6 c_6)
  rw [← hws7] at hk9
  rw [← hws7]
  clear hws7
  obtain ⟨ws8, hws8⟩ : ∃ x, x = ((ws7.setCell ⟨(w.heap.size + 1 + 1 + 1 + 1), 0, none⟩ (.bool false)).setCell ⟨(w.heap.size + 1 + 1 + 1 + 1), 1, none⟩ (.slice none 0 0)) := ⟨_, rfl⟩
  replace hk9 := hk9.far2 (g' := (w.heap.size + 1 + 1 + 1 + 1)) (by omega) (.bool false) (.slice none 0 0)
  rw [← hws8] at hk9
  replace hupw := hupw.two (g := (w.heap.size + 1 + 1 + 1 + 1)) (by omega) (.bool false) (.slice none 0 0)
  rw [← hws8] at hupw
  replace hk8 := hk8.two_bk (.bool false) (.slice none 0 0)
  rw [← hws8] at hk8
  rw [← hws8]
  clear hws8
  obtain ⟨ws9, hws9⟩ : ∃ x, x = ((ws8.setCell ⟨(w.heap.size + 1 + 1 + 1 + 1 + 1), 0, none⟩ (.bool false)).setCell ⟨(w.heap.size + 1 + 1 + 1 + 1 + 1), 1, none⟩ (.slice none 0 0)) := ⟨_, rfl⟩
  replace hk8 := hk8.far2 (g' := (w.heap.size + 1 + 1 + 1 + 1 + 1)) (by omega) (.bool false) (.slice none 0 0)
  rw [← hws9] at hk8
  replace hupw := hupw.two (g := (w.heap.size + 1 + 1 + 1 + 1 + 1)) (by omega) (.bool false) (.slice none 0 0)
  rw [← hws9] at hupw
  replace hk9 := hk9.two_bk (.bool false) (.slice none 0 0)
  rw [← hws9] at hk9
  rw [← hws9]
  clear hws9
  have hk8c0 := hk8.cell (i := 0) rfl
  have hk8c1 := hk8.cell (i := 1) rfl
  have hk9c0 := hk9.cell (i := 0) rfl
  have hk9c1 := hk9.cell (i := 1) rfl
  exact bodyPost_ret (v := .tuple #[.agg #[.bool false, .slice none 0 0], .agg #[.bool false, .slice none 0 0], .int .i64 3]) (by simp [results, Tryz.results59, go_sem, hk8c0, hk8c1, hk9c0, hk9c1]) rfl ⟨_, _, rfl, (Iz.zero _), (Iz.zero _), hupw⟩

end Go.Proofs.YtldifgfpecicnaaGreatDoor
