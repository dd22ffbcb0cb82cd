/- Fractions: Make and Of of the reference. -/
import Derived.Test.YtldifgfpecicnaaGreatDoorR5
import Derived.Deep.RegionWith
namespace Go.Proofs.YtldifgfpecicnaaGreatDoor
open Go.RowKit

theorem low_minus {p q : Int} (hq : q < 0) (g : Int) (hg : g = (Nat.gcd (-p).natAbs (-q).natAbs : Nat)) : (-p).tdiv g = nm (fr p q) ∧ (-q).tdiv g = dn (fr p q) := by
  have h := low_pos (p := -p) (q := -q) (by omega) g hg
  have e : fr (-p) (-q) = fr p q := Rat.neg_divInt_neg p q
  rw [e] at h
  exact h
set_option maxRecDepth 100000 in
set_option maxHeartbeats 4000000 in
theorem rmake_a (v0 v1 : Value) (w : World) (h0 : Bz w v0) (h1 : Az w v1) :
    Calls Tryz.prog 15 #[v0, v1] w (PFE w 0 0 1) := by
  obtain ⟨s0, A0, n0, c0, rfl⟩ := h0.agg
  obtain ⟨s1, A1, n1, c1, rfl⟩ := h1.agg
  have hupw : Up w w := Up.refl w
  go_enter Tryz.func15, Tryz.ntmps15
  go_wp2_with fail
  obtain ⟨wa1, hwa1⟩ : ∃ x, x = (((w.alloc (.cells #[.bool s0, .slice A0 n0 c0] 24)).alloc (.cells #[.bool s1, .slice A1 n1 c1] 24)).alloc (.cells #[.bool false, .slice none 0 0, .bool false, .slice none 0 0] 29)) := ⟨_, rfl⟩
  have hup : Up w wa1 := by rw [hwa1]; exact ((((Up.refl w).alloc _).alloc _).alloc _)
  have hzwa1 : w.heap.size ≤ w.heap.size := hupw.size
  replace h0 := h0.up hup
  replace hupw := hupw.trans hup
  clear hup
  have hk2 : Bk wa1 (w.heap.size) 24 #[.bool s0, .slice A0 n0 c0] := by
    have := (((Bk.new w 24 #[.bool s0, .slice A0 n0 c0]).alloc (.cells #[.bool s1, .slice A1 n1 c1] 24)).alloc (.cells #[.bool false, .slice none 0 0, .bool false, .slice none 0 0] 29))
    rw [hwa1]; simpa using this
  have hk3 : Bk wa1 (w.heap.size + 1) 24 #[.bool s1, .slice A1 n1 c1] := by
    have := ((Bk.new (w.alloc (.cells #[.bool s0, .slice A0 n0 c0] 24)) 24 #[.bool s1, .slice A1 n1 c1]).alloc (.cells #[.bool false, .slice none 0 0, .bool false, .slice none 0 0] 29))
    rw [hwa1]; simpa using this
  have hk4 : Bk wa1 (w.heap.size + 1 + 1) 29 #[.bool false, .slice none 0 0, .bool false, .slice none 0 0] := by
    have := (Bk.new ((w.alloc (.cells #[.bool s0, .slice A0 n0 c0] 24)).alloc (.cells #[.bool s1, .slice A1 n1 c1] 24)) 29 #[.bool false, .slice none 0 0, .bool false, .slice none 0 0])
    rw [hwa1]; simpa using this
  rw [← hwa1]
  clear hwa1
  refine (rvalidB h0).mono ?_
  rintro e w2 ⟨rfl, hup⟩
  replace hk4 := hk4.up hup
  replace hupw := hupw.trans hup
  clear hup
  have hk4c0 := hk4.cell (i := 0) rfl
  have hk4c1 := hk4.cell (i := 1) rfl
  have hk4c2 := hk4.cell (i := 2) rfl
  have hk4c3 := hk4.cell (i := 3) rfl
  have hk4l := hk4.lt
  have hk4f0 := hk4.frozen 0
  have hk4f1 := hk4.frozen 1
  have hk4f2 := hk4.frozen 2
  have hk4f3 := hk4.frozen 3
  go_wp2_with fail
  clear hk4c0 hk4c1 hk4c2 hk4c3 hk4l hk4f0 hk4f1 hk4f2 hk4f3
  obtain ⟨ws3, hws3⟩ : ∃ x, x = (st4 w2 (w.heap.size + 1 + 1) (.bool false) (.slice none 0 0) (.bool false) (.slice none 0 0)) := ⟨_, rfl⟩
  replace hupw := hupw.st4 (g := (w.heap.size + 1 + 1)) (by omega) (.bool false) (.slice none 0 0) (.bool false) (.slice none 0 0)
  rw [← hws3] at hupw
  replace hk4 := hk4.four (.bool false) (.slice none 0 0) (.bool false) (.slice none 0 0)
  rw [← hws3] at hk4
  have hszws3 : ws3.heap.size = w2.heap.size := by rw [hws3]; simp [st4]
  unfold st4 at hws3
  rw [← hws3]
  clear hws3
  clear hszws3
  have hk4c0 := hk4.cell (i := 0) rfl
  have hk4c1 := hk4.cell (i := 1) rfl
  have hk4c2 := hk4.cell (i := 2) rfl
  have hk4c3 := hk4.cell (i := 3) rfl
  exact bodyPost_ret (v := .tuple #[.agg #[.bool false, .slice none 0 0, .bool false, .slice none 0 0], .int .i64 1]) (by simp [results, Tryz.results15, go_sem, hk4c0, hk4c1, hk4c2, hk4c3]) rfl ⟨_, rfl, Fz.mk (Iz.zero _) (Iz.zero _), hupw⟩
set_option maxRecDepth 100000 in
set_option maxHeartbeats 4000000 in
theorem rmake_b {x : Int} (v0 v1 : Value) (w : World) (h0 : Iz w v0 (x)) (h1 : Bz w v1) :
    Calls Tryz.prog 15 #[v0, v1] w (PFE w 0 0 1) := by
  obtain ⟨s0, A0, n0, c0, rfl⟩ := h0.agg
  obtain ⟨s1, A1, n1, c1, rfl⟩ := h1.agg
  have hupw : Up w w := Up.refl w
  go_enter Tryz.func15, Tryz.ntmps15
  go_wp2_with fail
  obtain ⟨wa1, hwa1⟩ : ∃ x, x = (((w.alloc (.cells #[.bool s0, .slice A0 n0 c0] 24)).alloc (.cells #[.bool s1, .slice A1 n1 c1] 24)).alloc (.cells #[.bool false, .slice none 0 0, .bool false, .slice none 0 0] 29)) := ⟨_, rfl⟩
  have hup : Up w wa1 := by rw [hwa1]; exact ((((Up.refl w).alloc _).alloc _).alloc _)
  have hzwa1 : w.heap.size ≤ w.heap.size := hupw.size
  replace h0 := h0.up hup
  replace h1 := h1.up hup
  replace hupw := hupw.trans hup
  clear hup
  have hk2 : Bk wa1 (w.heap.size) 24 #[.bool s0, .slice A0 n0 c0] := by
    have := (((Bk.new w 24 #[.bool s0, .slice A0 n0 c0]).alloc (.cells #[.bool s1, .slice A1 n1 c1] 24)).alloc (.cells #[.bool false, .slice none 0 0, .bool false, .slice none 0 0] 29))
    rw [hwa1]; simpa using this
  have hk3 : Bk wa1 (w.heap.size + 1) 24 #[.bool s1, .slice A1 n1 c1] := by
    have := ((Bk.new (w.alloc (.cells #[.bool s0, .slice A0 n0 c0] 24)) 24 #[.bool s1, .slice A1 n1 c1]).alloc (.cells #[.bool false, .slice none 0 0, .bool false, .slice none 0 0] 29))
    rw [hwa1]; simpa using this
  have hk4 : Bk wa1 (w.heap.size + 1 + 1) 29 #[.bool false, .slice none 0 0, .bool false, .slice none 0 0] := by
    have := (Bk.new ((w.alloc (.cells #[.bool s0, .slice A0 n0 c0] 24)).alloc (.cells #[.bool s1, .slice A1 n1 c1] 24)) 29 #[.bool false, .slice none 0 0, .bool false, .slice none 0 0])
    rw [hwa1]; simpa using this
  rw [← hwa1]
  clear hwa1
  refine (rvalidQ h0).mono ?_
  rintro e w2 ⟨rfl, hup⟩
  replace hk3 := hk3.up hup
  replace hk4 := hk4.up hup
  replace h1 := h1.up hup
  replace hupw := hupw.trans hup
  clear hup
  have hk3c0 := hk3.cell (i := 0) rfl
  have hk3c1 := hk3.cell (i := 1) rfl
  have hk3l := hk3.lt
  go_wp2_with fail
  clear hk3c0 hk3c1 hk3l
  refine (rvalidB h1).mono ?_
  rintro e w3 ⟨rfl, hup⟩
  replace hk4 := hk4.up hup
  replace hupw := hupw.trans hup
  clear hup
  have hk4c0 := hk4.cell (i := 0) rfl
  have hk4c1 := hk4.cell (i := 1) rfl
  have hk4c2 := hk4.cell (i := 2) rfl
  have hk4c3 := hk4.cell (i := 3) rfl
  have hk4l := hk4.lt
  have hk4f0 := hk4.frozen 0
  have hk4f1 := hk4.frozen 1
  have hk4f2 := hk4.frozen 2
  have hk4f3 := hk4.frozen 3
  go_wp2_with fail
  clear hk4c0 hk4c1 hk4c2 hk4c3 hk4l hk4f0 hk4f1 hk4f2 hk4f3
  obtain ⟨ws4, hws4⟩ : ∃ x, x = (st4 w3 (w.heap.size + 1 + 1) (.bool false) (.slice none 0 0) (.bool false) (.slice none 0 0)) := ⟨_, rfl⟩
  replace hupw := hupw.st4 (g := (w.heap.size + 1 + 1)) (by omega) (.bool false) (.slice none 0 0) (.bool false) (.slice none 0 0)
  rw [← hws4] at hupw
  replace hk4 := hk4.four (.bool false) (.slice none 0 0) (.bool false) (.slice none 0 0)
  rw [← hws4] at hk4
  have hszws4 : ws4.heap.size = w3.heap.size := by rw [hws4]; simp [st4]
  unfold st4 at hws4
  rw [← hws4]
  clear hws4
  clear hszws4
  have hk4c0 := hk4.cell (i := 0) rfl
  have hk4c1 := hk4.cell (i := 1) rfl
  have hk4c2 := hk4.cell (i := 2) rfl
  have hk4c3 := hk4.cell (i := 3) rfl
  exact bodyPost_ret (v := .tuple #[.agg #[.bool false, .slice none 0 0, .bool false, .slice none 0 0], .int .i64 1]) (by simp [results, Tryz.results15, go_sem, hk4c0, hk4c1, hk4c2, hk4c3]) rfl ⟨_, rfl, Fz.mk (Iz.zero _) (Iz.zero _), hupw⟩
set_option maxRecDepth 100000 in
set_option maxHeartbeats 4000000 in
theorem rmake_0 {x y : Int} (v0 v1 : Value) (w : World) (h0 : Iz w v0 (x)) (h1 : Iz w v1 (y)) (hy : y = 0) :
    Calls Tryz.prog 15 #[v0, v1] w (PFE w 0 0 8) := by
  obtain ⟨s0, A0, n0, c0, rfl⟩ := h0.agg
  obtain ⟨s1, A1, n1, c1, rfl⟩ := h1.agg
  have hupw : Up w w := Up.refl w
  go_enter Tryz.func15, Tryz.ntmps15
  go_wp2_with fail
  obtain ⟨wa1, hwa1⟩ : ∃ x, x = (((w.alloc (.cells #[.bool s0, .slice A0 n0 c0] 24)).alloc (.cells #[.bool s1, .slice A1 n1 c1] 24)).alloc (.cells #[.bool false, .slice none 0 0, .bool false, .slice none 0 0] 29)) := ⟨_, rfl⟩
  have hup : Up w wa1 := by rw [hwa1]; exact ((((Up.refl w).alloc _).alloc _).alloc _)
  have hzwa1 : w.heap.size ≤ w.heap.size := hupw.size
  replace h0 := h0.up hup
  replace h1 := h1.up hup
  replace hupw := hupw.trans hup
  clear hup
  have hk2 : Bk wa1 (w.heap.size) 24 #[.bool s0, .slice A0 n0 c0] := by
    have := (((Bk.new w 24 #[.bool s0, .slice A0 n0 c0]).alloc (.cells #[.bool s1, .slice A1 n1 c1] 24)).alloc (.cells #[.bool false, .slice none 0 0, .bool false, .slice none 0 0] 29))
    rw [hwa1]; simpa using this
  have hk3 : Bk wa1 (w.heap.size + 1) 24 #[.bool s1, .slice A1 n1 c1] := by
    have := ((Bk.new (w.alloc (.cells #[.bool s0, .slice A0 n0 c0] 24)) 24 #[.bool s1, .slice A1 n1 c1]).alloc (.cells #[.bool false, .slice none 0 0, .bool false, .slice none 0 0] 29))
    rw [hwa1]; simpa using this
  have hk4 : Bk wa1 (w.heap.size + 1 + 1) 29 #[.bool false, .slice none 0 0, .bool false, .slice none 0 0] := by
    have := (Bk.new ((w.alloc (.cells #[.bool s0, .slice A0 n0 c0] 24)).alloc (.cells #[.bool s1, .slice A1 n1 c1] 24)) 29 #[.bool false, .slice none 0 0, .bool false, .slice none 0 0])
    rw [hwa1]; simpa using this
  rw [← hwa1]
  clear hwa1
  refine (rvalidQ h0).mono ?_
  rintro e w2 ⟨rfl, hup⟩
  replace hk3 := hk3.up hup
  replace hk4 := hk4.up hup
  replace h1 := h1.up hup
  replace hupw := hupw.trans hup
  clear hup
  have hk3c0 := hk3.cell (i := 0) rfl
  have hk3c1 := hk3.cell (i := 1) rfl
  have hk3l := hk3.lt
  go_wp2_with fail
  clear hk3c0 hk3c1 hk3l
  refine (rvalidQ h1).mono ?_
  rintro e w3 ⟨rfl, hup⟩
  replace hk3 := hk3.up hup
  replace hk4 := hk4.up hup
  replace h1 := h1.up hup
  replace hupw := hupw.trans hup
  clear hup
  have hk3c0 := hk3.cell (i := 0) rfl
  have hk3c1 := hk3.cell (i := 1) rfl
  have hk3l := hk3.lt
  go_wp2_with fail
  clear hk3c0 hk3c1 hk3l
  refine (rsignQ 0 h1 (Int.sign_eq_zero_iff_zero.2 hy)).mono ?_
  rintro e w4 ⟨rfl, hup⟩
  replace hk4 := hk4.up hup
  replace hupw := hupw.trans hup
  clear hup
  have hk4c0 := hk4.cell (i := 0) rfl
  have hk4c1 := hk4.cell (i := 1) rfl
  have hk4c2 := hk4.cell (i := 2) rfl
  have hk4c3 := hk4.cell (i := 3) rfl
  have hk4l := hk4.lt
  have hk4f0 := hk4.frozen 0
  have hk4f1 := hk4.frozen 1
  have hk4f2 := hk4.frozen 2
  have hk4f3 := hk4.frozen 3
  go_wp2_with fail
  clear hk4c0 hk4c1 hk4c2 hk4c3 hk4l hk4f0 hk4f1 hk4f2 hk4f3
  obtain ⟨ws5, hws5⟩ : ∃ x, x = (st4 w4 (w.heap.size + 1 + 1) (.bool false) (.slice none 0 0) (.bool false) (.slice none 0 0)) := ⟨_, rfl⟩
  replace hupw := hupw.st4 (g := (w.heap.size + 1 + 1)) (by omega) (.bool false) (.slice none 0 0) (.bool false) (.slice none 0 0)
  rw [← hws5] at hupw
  replace hk4 := hk4.four (.bool false) (.slice none 0 0) (.bool false) (.slice none 0 0)
  rw [← hws5] at hk4
  have hszws5 : ws5.heap.size = w4.heap.size := by rw [hws5]; simp [st4]
  unfold st4 at hws5
  rw [← hws5]
  clear hws5
  clear hszws5
  have hk4c0 := hk4.cell (i := 0) rfl
  have hk4c1 := hk4.cell (i := 1) rfl
  have hk4c2 := hk4.cell (i := 2) rfl
  have hk4c3 := hk4.cell (i := 3) rfl
  exact bodyPost_ret (v := .tuple #[.agg #[.bool false, .slice none 0 0, .bool false, .slice none 0 0], .int .i64 8]) (by simp [results, Tryz.results15, go_sem, hk4c0, hk4c1, hk4c2, hk4c3]) rfl ⟨_, rfl, Fz.mk (Iz.zero _) (Iz.zero _), hupw⟩
set_option maxRecDepth 100000 in
set_option maxHeartbeats 4000000 in
theorem rmake_p {x y g : Int} (v0 v1 : Value) (w : World) (h0 : Iz w v0 (x)) (h1 : Iz w v1 (y)) (Hg : Hid (g = (Nat.gcd x.natAbs y.natAbs : Nat))) (hy : 0 < y) :
    Calls Tryz.prog 15 #[v0, v1] w (PFE w (nm (fr x y)) (dn (fr x y)) 0) := by
  obtain ⟨s0, A0, n0, c0, rfl⟩ := h0.agg
  obtain ⟨s1, A1, n1, c1, rfl⟩ := h1.agg
  have hupw : Up w w := Up.refl w
  go_enter Tryz.func15, Tryz.ntmps15
  go_wp2_with fail
  obtain ⟨wa1, hwa1⟩ : ∃ x, x = (((w.alloc (.cells #[.bool s0, .slice A0 n0 c0] 24)).alloc (.cells #[.bool s1, .slice A1 n1 c1] 24)).alloc (.cells #[.bool false, .slice none 0 0, .bool false, .slice none 0 0] 29)) := ⟨_, rfl⟩
  have hup : Up w wa1 := by rw [hwa1]; exact ((((Up.refl w).alloc _).alloc _).alloc _)
  have hzwa1 : w.heap.size ≤ w.heap.size := hupw.size
  replace h0 := h0.up hup
  replace h1 := h1.up hup
  replace hupw := hupw.trans hup
  clear hup
  have hk2 : Bk wa1 (w.heap.size) 24 #[.bool s0, .slice A0 n0 c0] := by
    have := (((Bk.new w 24 #[.bool s0, .slice A0 n0 c0]).alloc (.cells #[.bool s1, .slice A1 n1 c1] 24)).alloc (.cells #[.bool false, .slice none 0 0, .bool false, .slice none 0 0] 29))
    rw [hwa1]; simpa using this
  have hk3 : Bk wa1 (w.heap.size + 1) 24 #[.bool s1, .slice A1 n1 c1] := by
    have := ((Bk.new (w.alloc (.cells #[.bool s0, .slice A0 n0 c0] 24)) 24 #[.bool s1, .slice A1 n1 c1]).alloc (.cells #[.bool false, .slice none 0 0, .bool false, .slice none 0 0] 29))
    rw [hwa1]; simpa using this
  have hk4 : Bk wa1 (w.heap.size + 1 + 1) 29 #[.bool false, .slice none 0 0, .bool false, .slice none 0 0] := by
    have := (Bk.new ((w.alloc (.cells #[.bool s0, .slice A0 n0 c0] 24)).alloc (.cells #[.bool s1, .slice A1 n1 c1] 24)) 29 #[.bool false, .slice none 0 0, .bool false, .slice none 0 0])
    rw [hwa1]; simpa using this
  rw [← hwa1]
  clear hwa1
  refine (rvalidQ h0).mono ?_
  rintro e w2 ⟨rfl, hup⟩
  replace hk2 := hk2.up hup
  replace hk3 := hk3.up hup
  replace hk4 := hk4.up hup
  replace h0 := h0.up hup
  replace h1 := h1.up hup
  replace hupw := hupw.trans hup
  clear hup
  have hk3c0 := hk3.cell (i := 0) rfl
  have hk3c1 := hk3.cell (i := 1) rfl
  have hk3l := hk3.lt
  go_wp2_with fail
  clear hk3c0 hk3c1 hk3l
  refine (rvalidQ h1).mono ?_
  rintro e w3 ⟨rfl, hup⟩
  replace hk2 := hk2.up hup
  replace hk3 := hk3.up hup
  replace hk4 := hk4.up hup
  replace h0 := h0.up hup
  replace h1 := h1.up hup
  replace hupw := hupw.trans hup
  clear hup
  have hk3c0 := hk3.cell (i := 0) rfl
  have hk3c1 := hk3.cell (i := 1) rfl
  have hk3l := hk3.lt
  go_wp2_with fail
  clear hk3c0 hk3c1 hk3l
  refine (rsignQ 1 h1 (Int.sign_eq_one_of_pos hy)).mono ?_
  rintro e w4 ⟨rfl, hup⟩
  replace hk2 := hk2.up hup
  replace hk3 := hk3.up hup
  replace hk4 := hk4.up hup
  replace h0 := h0.up hup
  replace h1 := h1.up hup
  replace hupw := hupw.trans hup
  clear hup
  have hk3c0 := hk3.cell (i := 0) rfl
  have hk3c1 := hk3.cell (i := 1) rfl
  have hk3l := hk3.lt
  go_wp2_with fail
  clear hk3c0 hk3c1 hk3l
  refine (rsignQ 1 h1 (Int.sign_eq_one_of_pos hy)).mono ?_
  rintro e w5 ⟨rfl, hup⟩
  replace hk2 := hk2.up hup
  replace hk3 := hk3.up hup
  replace hk4 := hk4.up hup
  replace h0 := h0.up hup
  replace h1 := h1.up hup
  replace hupw := hupw.trans hup
  clear hup
  have hk2c0 := hk2.cell (i := 0) rfl
  have hk2c1 := hk2.cell (i := 1) rfl
  have hk2l := hk2.lt
  have hk3c0 := hk3.cell (i := 0) rfl
  have hk3c1 := hk3.cell (i := 1) rfl
  have hk3l := hk3.lt
  go_wp2_with fail
  clear hk2c0 hk2c1 hk2l hk3c0 hk3c1 hk3l
  refine (rgcdG Hg h0 h1).mono ?_
  rintro e w6 ⟨v_7, rfl, h_7, hup⟩
  replace hk2 := hk2.up hup
  replace hk3 := hk3.up hup
  replace hk4 := hk4.up hup
  replace h0 := h0.up hup
  replace h1 := h1.up hup
  replace hupw := hupw.trans hup
  clear hup
  obtain ⟨s_7, A_7, n_7, c_7, rfl⟩ := h_7.agg
  have hk2c0 := hk2.cell (i := 0) rfl
  have hk2c1 := hk2.cell (i := 1) rfl
  have hk2l := hk2.lt
  go_wp2_with fail
  clear hk2c0 hk2c1 hk2l
  obtain ⟨wa8, hwa8⟩ : ∃ x, x = (w6.alloc (.cells #[.bool s_7, .slice A_7 n_7 c_7] 24)) := ⟨_, rfl⟩
  have hup : Up w6 wa8 := by rw [hwa8]; exact ((Up.refl w6).alloc _)
  have howa8 : (w.heap.size + 1 + 1) < w6.heap.size := hk4.lt
  have hzwa8 : w.heap.size ≤ w6.heap.size := hupw.size
  replace hk3 := hk3.up hup
  replace hk4 := hk4.up hup
  replace h0 := h0.up hup
  replace h1 := h1.up hup
  replace h_7 := h_7.up hup
  replace hupw := hupw.trans hup
  clear hup
  have hk6 : Bk wa8 (w6.heap.size) 24 #[.bool s_7, .slice A_7 n_7 c_7] := by
    have := (Bk.new w6 24 #[.bool s_7, .slice A_7 n_7 c_7])
    rw [hwa8]; simpa using this
  rw [← hwa8]
  clear hwa8
  refine (rdivQ h0 h_7 (g_ne Hg (by omega))).mono ?_
  rintro e w9 ⟨v_10, v_11, rfl, h_10, h_11, hup⟩
  replace hk3 := hk3.up hup
  replace hk4 := hk4.up hup
  replace hk6 := hk6.up hup
  replace h1 := h1.up hup
  replace h_7 := h_7.up hup
  replace hupw := hupw.trans hup
  clear hup
  obtain ⟨s_10, A_10, n_10, c_10, rfl⟩ := h_10.agg
  obtain ⟨s_11, A_11, n_11, c_11, rfl⟩ := h_11.agg
  have hk3c0 := hk3.cell (i := 0) rfl
  have hk3c1 := hk3.cell (i := 1) rfl
  have hk3l := hk3.lt
  have hk6c0 := hk6.cell (i := 0) rfl
  have hk6c1 := hk6.cell (i := 1) rfl
  have hk6l := hk6.lt
  have hk3l1 : (w.heap.size + 1) < w9.heap.size + 1 := by omega
  have hk6l1 : w6.heap.size < w9.heap.size + 1 := by omega
  go_wp2_with fail
  clear hk3c0 hk3c1 hk3l hk6c0 hk6c1 hk6l hk3l1 hk6l1
  obtain ⟨wa12, hwa12⟩ : ∃ x, x = ((w9.alloc (.cells #[.bool s_10, .slice A_10 n_10 c_10] 24)).alloc (.cells #[.bool s_11, .slice A_11 n_11 c_11] 24)) := ⟨_, rfl⟩
  have hup : Up w9 wa12 := by rw [hwa12]; exact (((Up.refl w9).alloc _).alloc _)
  have howa12 : w6.heap.size < w9.heap.size := hk6.lt
  have hzwa12 : w.heap.size ≤ w9.heap.size := hupw.size
  replace hk4 := hk4.up hup
  replace h1 := h1.up hup
  replace h_7 := h_7.up hup
  replace h_10 := h_10.up hup
  replace hupw := hupw.trans hup
  clear hup
  have hk7 : Bk wa12 (w9.heap.size) 24 #[.bool s_10, .slice A_10 n_10 c_10] := by
    have := ((Bk.new w9 24 #[.bool s_10, .slice A_10 n_10 c_10]).alloc (.cells #[.bool s_11, .slice A_11 n_11 c_11] 24))
    rw [hwa12]; simpa using this
  have hk8 : Bk wa12 (w9.heap.size + 1) 24 #[.bool s_11, .slice A_11 n_11 c_11] := by
    have := (Bk.new (w9.alloc (.cells #[.bool s_10, .slice A_10 n_10 c_10] 24)) 24 #[.bool s_11, .slice A_11 n_11 c_11])
    rw [hwa12]; simpa using this
  rw [← hwa12]
  clear hwa12
  refine (rdivQ h1 h_7 (g_ne Hg (by omega))).mono ?_
  rintro e w13 ⟨v_14, v_15, rfl, h_14, h_15, hup⟩
  replace hk4 := hk4.up hup
  replace hk7 := hk7.up hup
  replace hk8 := hk8.up hup
  replace h_10 := h_10.up hup
  replace hupw := hupw.trans hup
  clear hup
  obtain ⟨s_14, A_14, n_14, c_14, rfl⟩ := h_14.agg
  obtain ⟨s_15, A_15, n_15, c_15, rfl⟩ := h_15.agg
  have hk7c0 := hk7.cell (i := 0) rfl
  have hk7c1 := hk7.cell (i := 1) rfl
  have hk7l := hk7.lt
  have hk4c0 := hk4.cell (i := 0) rfl
  have hk4c1 := hk4.cell (i := 1) rfl
  have hk4c2 := hk4.cell (i := 2) rfl
  have hk4c3 := hk4.cell (i := 3) rfl
  have hk4l := hk4.lt
  have hk4f0 := hk4.frozen 0
  have hk4f1 := hk4.frozen 1
  have hk4f2 := hk4.frozen 2
  have hk4f3 := hk4.frozen 3
  have hk7l1 : w9.heap.size < w13.heap.size + 1 := by omega
  have hk4l1 : (w.heap.size + 1 + 1) < w13.heap.size + 1 := by omega
  go_wp2_with fail
  clear hk7c0 hk7c1 hk7l hk4c0 hk4c1 hk4c2 hk4c3 hk4l hk4f0 hk4f1 hk4f2 hk4f3 hk7l1 hk4l1
  obtain ⟨ws16, hws16⟩ : ∃ x, x = (st4 w13 (w.heap.size + 1 + 1) (.bool s_10) (.slice A_10 n_10 c_10) (.bool s_14) (.slice A_14 n_14 c_14)) := ⟨_, rfl⟩
  have h_10' := h_10.st4 hk4 (noU4 _ _ _ _ _ _ _ _) (.bool s_10) (.slice A_10 n_10 c_10) (.bool s_14) (.slice A_14 n_14 c_14)
  have h_14' := h_14.st4 hk4 (noU4 _ _ _ _ _ _ _ _) (.bool s_10) (.slice A_10 n_10 c_10) (.bool s_14) (.slice A_14 n_14 c_14)
  rw [← hws16] at h_10'
  clear h_10
  have h_10 := h_10'
  clear h_10'
  rw [← hws16] at h_14'
  clear h_14
  have h_14 := h_14'
  clear h_14'
  replace hk8 := hk8.far4 (g' := (w.heap.size + 1 + 1)) (by omega) (.bool s_10) (.slice A_10 n_10 c_10) (.bool s_14) (.slice A_14 n_14 c_14)
  rw [← hws16] at hk8
  replace hupw := hupw.st4 (g := (w.heap.size + 1 + 1)) (by omega) (.bool s_10) (.slice A_10 n_10 c_10) (.bool s_14) (.slice A_14 n_14 c_14)
  rw [← hws16] at hupw
  replace hk4 := hk4.four (.bool s_10) (.slice A_10 n_10 c_10) (.bool s_14) (.slice A_14 n_14 c_14)
  rw [← hws16] at hk4
  have hszws16 : ws16.heap.size = w13.heap.size := by rw [hws16]; simp [st4]
  unfold st4 at hws16
  rw [← hws16]
  clear hws16
  obtain ⟨wa17, hwa17⟩ : ∃ x, x = ((ws16.alloc (.cells #[.bool s_14, .slice A_14 n_14 c_14] 24)).alloc (.cells #[.bool s_15, .slice A_15 n_15 c_15] 24)) := ⟨_, rfl⟩
  have hup : Up ws16 wa17 := by rw [hwa17]; exact (((Up.refl ws16).alloc _).alloc _)
  have howa17 : (w9.heap.size + 1) < w13.heap.size := by have := hk8.lt; omega
  have hzwa17 : w.heap.size ≤ w13.heap.size := by have := hupw.size; omega
  replace hk4 := hk4.up hup
  replace h_10 := h_10.up hup
  replace h_14 := h_14.up hup
  replace hupw := hupw.trans hup
  clear hup
  have hk10 : Bk wa17 (w13.heap.size) 24 #[.bool s_14, .slice A_14 n_14 c_14] := by
    have := ((Bk.new ws16 24 #[.bool s_14, .slice A_14 n_14 c_14]).alloc (.cells #[.bool s_15, .slice A_15 n_15 c_15] 24))
    rw [hwa17]; simpa [hszws16] using this
  have hk11 : Bk wa17 (w13.heap.size + 1) 24 #[.bool s_15, .slice A_15 n_15 c_15] := by
    have := (Bk.new (ws16.alloc (.cells #[.bool s_14, .slice A_14 n_14 c_14] 24)) 24 #[.bool s_15, .slice A_15 n_15 c_15])
    rw [hwa17]; simpa [hszws16] using this
  rw [← hwa17]
  clear hwa17
  clear hszws16
  have hk4c0 := hk4.cell (i := 0) rfl
  have hk4c1 := hk4.cell (i := 1) rfl
  have hk4c2 := hk4.cell (i := 2) rfl
  have hk4c3 := hk4.cell (i := 3) rfl
  exact bodyPost_ret (v := .tuple #[.agg #[.bool s_10, .slice A_10 n_10 c_10, .bool s_14, .slice A_14 n_14 c_14], .int .i64 0]) (by simp [results, Tryz.results15, go_sem, hk4c0, hk4c1, hk4c2, hk4c3]) rfl ⟨_, rfl, Fz.mk (h_10.congr (low_pos hy g Hg.out).1) (h_14.congr (low_pos hy g Hg.out).2), hupw⟩
set_option maxRecDepth 100000 in
set_option maxHeartbeats 4000000 in
theorem rmake_m {x y g : Int} (v0 v1 : Value) (w : World) (h0 : Iz w v0 (x)) (h1 : Iz w v1 (y)) (Hg : Hid (g = (Nat.gcd (-x).natAbs (-y).natAbs : Nat))) (hy : y < 0) :
    Calls Tryz.prog 15 #[v0, v1] w (PFE w (nm (fr x y)) (dn (fr x y)) 0) := by
  obtain ⟨s0, A0, n0, c0, rfl⟩ := h0.agg
  obtain ⟨s1, A1, n1, c1, rfl⟩ := h1.agg
  have hupw : Up w w := Up.refl w
  go_enter Tryz.func15, Tryz.ntmps15
  go_wp2_with fail
  obtain ⟨wa1, hwa1⟩ : ∃ x, x = (((w.alloc (.cells #[.bool s0, .slice A0 n0 c0] 24)).alloc (.cells #[.bool s1, .slice A1 n1 c1] 24)).alloc (.cells #[.bool false, .slice none 0 0, .bool false, .slice none 0 0] 29)) := ⟨_, rfl⟩
  have hup : Up w wa1 := by rw [hwa1]; exact ((((Up.refl w).alloc _).alloc _).alloc _)
  have hzwa1 : w.heap.size ≤ w.heap.size := hupw.size
  replace h0 := h0.up hup
  replace h1 := h1.up hup
  replace hupw := hupw.trans hup
  clear hup
  have hk2 : Bk wa1 (w.heap.size) 24 #[.bool s0, .slice A0 n0 c0] := by
    have := (((Bk.new w 24 #[.bool s0, .slice A0 n0 c0]).alloc (.cells #[.bool s1, .slice A1 n1 c1] 24)).alloc (.cells #[.bool false, .slice none 0 0, .bool false, .slice none 0 0] 29))
    rw [hwa1]; simpa using this
  have hk3 : Bk wa1 (w.heap.size + 1) 24 #[.bool s1, .slice A1 n1 c1] := by
    have := ((Bk.new (w.alloc (.cells #[.bool s0, .slice A0 n0 c0] 24)) 24 #[.bool s1, .slice A1 n1 c1]).alloc (.cells #[.bool false, .slice none 0 0, .bool false, .slice none 0 0] 29))
    rw [hwa1]; simpa using this
  have hk4 : Bk wa1 (w.heap.size + 1 + 1) 29 #[.bool false, .slice none 0 0, .bool false, .slice none 0 0] := by
    have := (Bk.new ((w.alloc (.cells #[.bool s0, .slice A0 n0 c0] 24)).alloc (.cells #[.bool s1, .slice A1 n1 c1] 24)) 29 #[.bool false, .slice none 0 0, .bool false, .slice none 0 0])
    rw [hwa1]; simpa using this
  rw [← hwa1]
  clear hwa1
  refine (rvalidQ h0).mono ?_
  rintro e w2 ⟨rfl, hup⟩
  replace hk2 := hk2.up hup
  replace hk3 := hk3.up hup
  replace hk4 := hk4.up hup
  replace h0 := h0.up hup
  replace h1 := h1.up hup
  replace hupw := hupw.trans hup
  clear hup
  have hk3c0 := hk3.cell (i := 0) rfl
  have hk3c1 := hk3.cell (i := 1) rfl
  have hk3l := hk3.lt
  go_wp2_with fail
  clear hk3c0 hk3c1 hk3l
  refine (rvalidQ h1).mono ?_
  rintro e w3 ⟨rfl, hup⟩
  replace hk2 := hk2.up hup
  replace hk3 := hk3.up hup
  replace hk4 := hk4.up hup
  replace h0 := h0.up hup
  replace h1 := h1.up hup
  replace hupw := hupw.trans hup
  clear hup
  have hk3c0 := hk3.cell (i := 0) rfl
  have hk3c1 := hk3.cell (i := 1) rfl
  have hk3l := hk3.lt
  go_wp2_with fail
  clear hk3c0 hk3c1 hk3l
  refine (rsignQ (-1) h1 (Int.sign_eq_neg_one_of_neg hy)).mono ?_
  rintro e w4 ⟨rfl, hup⟩
  replace hk2 := hk2.up hup
  replace hk3 := hk3.up hup
  replace hk4 := hk4.up hup
  replace h0 := h0.up hup
  replace h1 := h1.up hup
  replace hupw := hupw.trans hup
  clear hup
  have hk3c0 := hk3.cell (i := 0) rfl
  have hk3c1 := hk3.cell (i := 1) rfl
  have hk3l := hk3.lt
  go_wp2_with fail
  clear hk3c0 hk3c1 hk3l
  refine (rsignQ (-1) h1 (Int.sign_eq_neg_one_of_neg hy)).mono ?_
  rintro e w5 ⟨rfl, hup⟩
  replace hk2 := hk2.up hup
  replace hk3 := hk3.up hup
  replace hk4 := hk4.up hup
  replace h0 := h0.up hup
  replace h1 := h1.up hup
  replace hupw := hupw.trans hup
  clear hup
  go_wp2_with fail
  have hk2c0 := hk2.cell (i := 0) rfl
  have hk2f0 := hk2.frozen 0
  have hk2c1 := hk2.cell (i := 1) rfl
  have hk2f1 := hk2.frozen 1
  have hk3c0 := hk3.cell (i := 0) rfl
  have hk3f0 := hk3.frozen 0
  have hk3c1 := hk3.cell (i := 1) rfl
  have hk3f1 := hk3.frozen 1
  have hupA : Up w5 w5.drew := (Up.refl w5).drew
  go_region_with
    (first
      | (go_at_call_of 48 A0; refine (negQ (h0.up hupA)).mono ?_; rintro e w6 ⟨v_7, rfl, h_7, hupx⟩; obtain ⟨s_7, A_7, n_7, c_7, rfl⟩ := h_7.agg; replace hupA := hupA.trans hupx; have hk2c0x1 := (hk2.up hupA).cell (i := 0) rfl; have hk2f0x1 := (hk2.up hupA).frozen 0; have hk2c1x1 := (hk2.up hupA).cell (i := 1) rfl; have hk2f1x1 := (hk2.up hupA).frozen 1; have hk3c0x1 := (hk3.up hupA).cell (i := 0) rfl; have hk3f0x1 := (hk3.up hupA).frozen 0; have hk3c1x1 := (hk3.up hupA).cell (i := 1) rfl; have hk3f1x1 := (hk3.up hupA).frozen 1)
      | (go_at_call_of 48 A1; refine (negQ (h1.up hupA)).mono ?_; rintro e w8 ⟨v_9, rfl, h_9, hupx⟩; obtain ⟨s_9, A_9, n_9, c_9, rfl⟩ := h_9.agg; replace h_7 := h_7.up hupx; replace hupA := hupA.trans hupx; have hk2c0x2 := (hk2.up hupA).cell (i := 0) rfl; have hk2f0x2 := (hk2.up hupA).frozen 0; have hk2c1x2 := (hk2.up hupA).cell (i := 1) rfl; have hk2f1x2 := (hk2.up hupA).frozen 1; have hk3c0x2 := (hk3.up hupA).cell (i := 0) rfl; have hk3f0x2 := (hk3.up hupA).frozen 0; have hk3c1x2 := (hk3.up hupA).cell (i := 1) rfl; have hk3f1x2 := (hk3.up hupA).frozen 1))
  all_goals
    replace hk2 := hk2.up hupA
    replace hk3 := hk3.up hupA
    replace hk4 := hk4.up hupA
    replace hupw := hupw.trans hupA
    clear hupA
    clear hk2c0 hk2c1 hk2f0 hk2f1 hk3c0 hk3c1 hk3f0 hk3f1 hk2c0x1 hk2c0x2 hk2c1x1 hk2c1x2 hk2f0x1 hk2f0x2 hk2f1x1 hk2f1x2 hk3c0x1 hk3c0x2 hk3c1x1 hk3c1x2 hk3f0x1 hk3f0x2 hk3f1x1 hk3f1x2
    obtain ⟨ws10, hws10⟩ : ∃ x, x = ((w8.setCell ⟨w.heap.size, 0, none⟩ (.bool s_7)).setCell ⟨w.heap.size, 1, none⟩ (.slice A_7 n_7 c_7)) := ⟨_, rfl⟩
    have h_7' := h_7.st2 hk2 (noU2 _ _ _ _) (.bool s_7) (.slice A_7 n_7 c_7)
    have h_9' := h_9.st2 hk2 (noU2 _ _ _ _) (.bool s_7) (.slice A_7 n_7 c_7)
    rw [← hws10] at h_7'
    clear h_7
    have h_7 := h_7'
    clear h_7'
    rw [← hws10] at h_9'
    clear h_9
    have h_9 := h_9'
    clear h_9'
    replace hk3 := hk3.far2 (g' := w.heap.size) (by omega) (.bool s_7) (.slice A_7 n_7 c_7)
    rw [← hws10] at hk3
    replace hk4 := hk4.far2 (g' := w.heap.size) (by omega) (.bool s_7) (.slice A_7 n_7 c_7)
    rw [← hws10] at hk4
    replace hupw := hupw.two (g := w.heap.size) (by omega) (.bool s_7) (.slice A_7 n_7 c_7)
    rw [← hws10] at hupw
    replace hk2 := hk2.two_bk (.bool s_7) (.slice A_7 n_7 c_7)
    rw [← hws10] at hk2
    have hszws10 : ws10.heap.size = w8.heap.size := by rw [hws10]; simp
    rw [← hws10]
    clear hws10
    obtain ⟨ws11, hws11⟩ : ∃ x, x = ((ws10.setCell ⟨(w.heap.size + 1), 0, none⟩ (.bool s_9)).setCell ⟨(w.heap.size + 1), 1, none⟩ (.slice A_9 n_9 c_9)) := ⟨_, rfl⟩
    have h_7' := h_7.st2 hk3 (noU2 _ _ _ _) (.bool s_9) (.slice A_9 n_9 c_9)
    have h_9' := h_9.st2 hk3 (noU2 _ _ _ _) (.bool s_9) (.slice A_9 n_9 c_9)
    rw [← hws11] at h_7'
    clear h_7
    have h_7 := h_7'
    clear h_7'
    rw [← hws11] at h_9'
    clear h_9
    have h_9 := h_9'
    clear h_9'
    replace hk2 := hk2.far2 (g' := (w.heap.size + 1)) (by omega) (.bool s_9) (.slice A_9 n_9 c_9)
    rw [← hws11] at hk2
    replace hk4 := hk4.far2 (g' := (w.heap.size + 1)) (by omega) (.bool s_9) (.slice A_9 n_9 c_9)
    rw [← hws11] at hk4
    replace hupw := hupw.two (g := (w.heap.size + 1)) (by omega) (.bool s_9) (.slice A_9 n_9 c_9)
    rw [← hws11] at hupw
    replace hk3 := hk3.two_bk (.bool s_9) (.slice A_9 n_9 c_9)
    rw [← hws11] at hk3
    have hszws11 : ws11.heap.size = w8.heap.size := by rw [hws11]; simp [hszws10]
    rw [← hws11]
    clear hws11
    clear hszws10 hszws11
    have hk2c0 := hk2.cell (i := 0) rfl
    have hk2c1 := hk2.cell (i := 1) rfl
    have hk2l := hk2.lt
    have hk3c0 := hk3.cell (i := 0) rfl
    have hk3c1 := hk3.cell (i := 1) rfl
    have hk3l := hk3.lt
    go_wp2_with fail
    clear hk2c0 hk2c1 hk2l hk3c0 hk3c1 hk3l
    refine (rgcdG Hg h_7 h_9).mono ?_
    rintro e w12 ⟨v_13, rfl, h_13, hup⟩
    replace hk2 := hk2.up hup
    replace hk3 := hk3.up hup
    replace hk4 := hk4.up hup
    replace h_7 := h_7.up hup
    replace h_9 := h_9.up hup
    replace hupw := hupw.trans hup
    clear hup
    obtain ⟨s_13, A_13, n_13, c_13, rfl⟩ := h_13.agg
    have hk2c0 := hk2.cell (i := 0) rfl
    have hk2c1 := hk2.cell (i := 1) rfl
    have hk2l := hk2.lt
    go_wp2_with fail
    clear hk2c0 hk2c1 hk2l
    obtain ⟨wa14, hwa14⟩ : ∃ x, x = (w12.alloc (.cells #[.bool s_13, .slice A_13 n_13 c_13] 24)) := ⟨_, rfl⟩
    have hup : Up w12 wa14 := by rw [hwa14]; exact ((Up.refl w12).alloc _)
    have howa14 : (w.heap.size + 1 + 1) < w12.heap.size := hk4.lt
    have hzwa14 : w.heap.size ≤ w12.heap.size := hupw.size
    replace hk3 := hk3.up hup
    replace hk4 := hk4.up hup
    replace h_7 := h_7.up hup
    replace h_9 := h_9.up hup
    replace h_13 := h_13.up hup
    replace hupw := hupw.trans hup
    clear hup
    have hk6 : Bk wa14 (w12.heap.size) 24 #[.bool s_13, .slice A_13 n_13 c_13] := by
      have := (Bk.new w12 24 #[.bool s_13, .slice A_13 n_13 c_13])
      rw [hwa14]; simpa using this
    rw [← hwa14]
    clear hwa14
    refine (rdivQ h_7 h_13 (g_ne Hg (by omega))).mono ?_
    rintro e w15 ⟨v_16, v_17, rfl, h_16, h_17, hup⟩
    replace hk3 := hk3.up hup
    replace hk4 := hk4.up hup
    replace hk6 := hk6.up hup
    replace h_9 := h_9.up hup
    replace h_13 := h_13.up hup
    replace hupw := hupw.trans hup
    clear hup
    obtain ⟨s_16, A_16, n_16, c_16, rfl⟩ := h_16.agg
    obtain ⟨s_17, A_17, n_17, c_17, rfl⟩ := h_17.agg
    have hk3c0 := hk3.cell (i := 0) rfl
    have hk3c1 := hk3.cell (i := 1) rfl
    have hk3l := hk3.lt
    have hk6c0 := hk6.cell (i := 0) rfl
    have hk6c1 := hk6.cell (i := 1) rfl
    have hk6l := hk6.lt
    have hk3l1 : (w.heap.size + 1) < w15.heap.size + 1 := by omega
    have hk6l1 : w12.heap.size < w15.heap.size + 1 := by omega
    go_wp2_with fail
    clear hk3c0 hk3c1 hk3l hk6c0 hk6c1 hk6l hk3l1 hk6l1
    obtain ⟨wa18, hwa18⟩ : ∃ x, x = ((w15.alloc (.cells #[.bool s_16, .slice A_16 n_16 c_16] 24)).alloc (.cells #[.bool s_17, .slice A_17 n_17 c_17] 24)) := ⟨_, rfl⟩
    have hup : Up w15 wa18 := by rw [hwa18]; exact (((Up.refl w15).alloc _).alloc _)
    have howa18 : w12.heap.size < w15.heap.size := hk6.lt
    have hzwa18 : w.heap.size ≤ w15.heap.size := hupw.size
    replace hk4 := hk4.up hup
    replace h_9 := h_9.up hup
    replace h_13 := h_13.up hup
    replace h_16 := h_16.up hup
    replace hupw := hupw.trans hup
    clear hup
    have hk7 : Bk wa18 (w15.heap.size) 24 #[.bool s_16, .slice A_16 n_16 c_16] := by
      have := ((Bk.new w15 24 #[.bool s_16, .slice A_16 n_16 c_16]).alloc (.cells #[.bool s_17, .slice A_17 n_17 c_17] 24))
      rw [hwa18]; simpa using this
    have hk8 : Bk wa18 (w15.heap.size + 1) 24 #[.bool s_17, .slice A_17 n_17 c_17] := by
      have := (Bk.new (w15.alloc (.cells #[.bool s_16, .slice A_16 n_16 c_16] 24)) 24 #[.bool s_17, .slice A_17 n_17 c_17])
      rw [hwa18]; simpa using this
    rw [← hwa18]
    clear hwa18
    refine (rdivQ h_9 h_13 (g_ne Hg (by omega))).mono ?_
    rintro e w19 ⟨v_20, v_21, rfl, h_20, h_21, hup⟩
    replace hk4 := hk4.up hup
    replace hk7 := hk7.up hup
    replace hk8 := hk8.up hup
    replace h_16 := h_16.up hup
    replace hupw := hupw.trans hup
    clear hup
    obtain ⟨s_20, A_20, n_20, c_20, rfl⟩ := h_20.agg
    obtain ⟨s_21, A_21, n_21, c_21, rfl⟩ := h_21.agg
    have hk7c0 := hk7.cell (i := 0) rfl
    have hk7c1 := hk7.cell (i := 1) rfl
    have hk7l := hk7.lt
    have hk4c0 := hk4.cell (i := 0) rfl
    have hk4c1 := hk4.cell (i := 1) rfl
    have hk4c2 := hk4.cell (i := 2) rfl
    have hk4c3 := hk4.cell (i := 3) rfl
    have hk4l := hk4.lt
    have hk4f0 := hk4.frozen 0
    have hk4f1 := hk4.frozen 1
    have hk4f2 := hk4.frozen 2
    have hk4f3 := hk4.frozen 3
    have hk7l1 : w15.heap.size < w19.heap.size + 1 := by omega
    have hk4l1 : (w.heap.size + 1 + 1) < w19.heap.size + 1 := by omega
    go_wp2_with fail
    clear hk7c0 hk7c1 hk7l hk4c0 hk4c1 hk4c2 hk4c3 hk4l hk4f0 hk4f1 hk4f2 hk4f3 hk7l1 hk4l1
    obtain ⟨ws22, hws22⟩ : ∃ x, x = (st4 w19 (w.heap.size + 1 + 1) (.bool s_16) (.slice A_16 n_16 c_16) (.bool s_20) (.slice A_20 n_20 c_20)) := ⟨_, rfl⟩
    have h_16' := h_16.st4 hk4 (noU4 _ _ _ _ _ _ _ _) (.bool s_16) (.slice A_16 n_16 c_16) (.bool s_20) (.slice A_20 n_20 c_20)
    have h_20' := h_20.st4 hk4 (noU4 _ _ _ _ _ _ _ _) (.bool s_16) (.slice A_16 n_16 c_16) (.bool s_20) (.slice A_20 n_20 c_20)
    rw [← hws22] at h_16'
    clear h_16
    have h_16 := h_16'
    clear h_16'
    rw [← hws22] at h_20'
    clear h_20
    have h_20 := h_20'
    clear h_20'
    replace hk8 := hk8.far4 (g' := (w.heap.size + 1 + 1)) (by omega) (.bool s_16) (.slice A_16 n_16 c_16) (.bool s_20) (.slice A_20 n_20 c_20)
    rw [← hws22] at hk8
    replace hupw := hupw.st4 (g := (w.heap.size + 1 + 1)) (by omega) (.bool s_16) (.slice A_16 n_16 c_16) (.bool s_20) (.slice A_20 n_20 c_20)
    rw [← hws22] at hupw
    replace hk4 := hk4.four (.bool s_16) (.slice A_16 n_16 c_16) (.bool s_20) (.slice A_20 n_20 c_20)
    rw [← hws22] at hk4
    have hszws22 : ws22.heap.size = w19.heap.size := by rw [hws22]; simp [st4]
    unfold st4 at hws22
    rw [← hws22]
    clear hws22
    obtain ⟨wa23, hwa23⟩ : ∃ x, x = ((ws22.alloc (.cells #[.bool s_20, .slice A_20 n_20 c_20] 24)).alloc (.cells #[.bool s_21, .slice A_21 n_21 c_21] 24)) := ⟨_, rfl⟩
    have hup : Up ws22 wa23 := by rw [hwa23]; exact (((Up.refl ws22).alloc _).alloc _)
    have howa23 : (w15.heap.size + 1) < w19.heap.size := by have := hk8.lt; omega
    have hzwa23 : w.heap.size ≤ w19.heap.size := by have := hupw.size; omega
    replace hk4 := hk4.up hup
    replace h_16 := h_16.up hup
    replace h_20 := h_20.up hup
    replace hupw := hupw.trans hup
    clear hup
    have hk10 : Bk wa23 (w19.heap.size) 24 #[.bool s_20, .slice A_20 n_20 c_20] := by
      have := ((Bk.new ws22 24 #[.bool s_20, .slice A_20 n_20 c_20]).alloc (.cells #[.bool s_21, .slice A_21 n_21 c_21] 24))
      rw [hwa23]; simpa [hszws22] using this
    have hk11 : Bk wa23 (w19.heap.size + 1) 24 #[.bool s_21, .slice A_21 n_21 c_21] := by
      have := (Bk.new (ws22.alloc (.cells #[.bool s_20, .slice A_20 n_20 c_20] 24)) 24 #[.bool s_21, .slice A_21 n_21 c_21])
      rw [hwa23]; simpa [hszws22] using this
    rw [← hwa23]
    clear hwa23
    clear hszws22
    have hk4c0 := hk4.cell (i := 0) rfl
    have hk4c1 := hk4.cell (i := 1) rfl
    have hk4c2 := hk4.cell (i := 2) rfl
    have hk4c3 := hk4.cell (i := 3) rfl
    exact bodyPost_ret (v := .tuple #[.agg #[.bool s_16, .slice A_16 n_16 c_16, .bool s_20, .slice A_20 n_20 c_20], .int .i64 0]) (by simp [results, Tryz.results15, go_sem, hk4c0, hk4c1, hk4c2, hk4c3]) rfl ⟨_, rfl, Fz.mk (h_16.congr (low_minus hy g Hg.out).1) (h_20.congr (low_minus hy g Hg.out).2), hupw⟩
theorem rmakeQ {w : World} {v v' : Value} {x y : Int} (h : Iz w v x) (h' : Iz w v' y) : Calls Tryz.prog 15 #[v, v'] w (PR w (makeR x y)) := by
  unfold makeR
  rcases Int.lt_trichotomy y 0 with hy | hy | hy
  · rw [if_neg (by omega)]; exact rmake_m v v' w h h' rfl hy
  · rw [if_pos hy]; exact rmake_0 v v' w h h' hy
  · rw [if_neg (by omega)]; exact rmake_p v v' w h h' rfl hy
theorem rmakeB {w : World} {v v' : Value} (h : Az w v) (h' : Az w v') (hb : Bz w v ∨ Bz w v') : Calls Tryz.prog 15 #[v, v'] w (PR w (noR 1)) := by
  rcases h.or with k | ⟨x, k⟩
  · exact rmake_a v v' w k h'
  · rcases hb with hb | hb
    · exact rmake_a v v' w hb h'
    · exact rmake_b v v' w k hb
set_option maxRecDepth 100000 in
set_option maxHeartbeats 4000000 in
theorem rofRQ (x y : Int) (w : World)  (h0l : -9223372036854775808 ≤ x) (h0u : x ≤ 9223372036854775807) (h1l : -9223372036854775808 ≤ y) (h1u : y ≤ 9223372036854775807) :
    Calls Tryz.prog 17 #[.int .i64 x, .int .i64 y] w (PR w (makeR x y)) := by
  have hupw : Up w w := Up.refl w
  go_enter Tryz.func17, Tryz.ntmps17
  go_wp2_with fail
  obtain ⟨wa1, hwa1⟩ : ∃ x, x = (w.alloc (.cells #[.bool false, .slice none 0 0, .bool false, .slice none 0 0] 29)) := ⟨_, rfl⟩
  have hup : Up w wa1 := by rw [hwa1]; exact ((Up.refl w).alloc _)
  have hzwa1 : w.heap.size ≤ w.heap.size := hupw.size
  replace hupw := hupw.trans hup
  clear hup
  have hk4 : Bk wa1 (w.heap.size) 29 #[.bool false, .slice none 0 0, .bool false, .slice none 0 0] := by
    have := (Bk.new w 29 #[.bool false, .slice none 0 0, .bool false, .slice none 0 0])
    rw [hwa1]; simpa using this
  rw [← hwa1]
  clear hwa1
  refine (rofQ x h0l h0u).mono ?_
  rintro e w2 ⟨v_3, rfl, h_3, hup⟩
  replace hk4 := hk4.up hup
  replace hupw := hupw.trans hup
  clear hup
  obtain ⟨s_3, A_3, n_3, c_3, rfl⟩ := h_3.agg
  go_wp2_with fail
  refine (rofQ y h1l h1u).mono ?_
  rintro e w4 ⟨v_5, rfl, h_5, hup⟩
  replace hk4 := hk4.up hup
  replace h_3 := h_3.up hup
  replace hupw := hupw.trans hup
  clear hup
  obtain ⟨s_5, A_5, n_5, c_5, rfl⟩ := h_5.agg
  go_wp2_with fail
  refine (rmakeQ h_3 h_5).mono ?_
  rintro e w6 ⟨vf, rfl, hf, hup⟩
  replace hk4 := hk4.up hup
  replace hupw := hupw.trans hup
  clear hup
  obtain ⟨s_7, A_7, n_7, c_7, s_8, A_8, n_8, c_8, rfl, h_7, h_8⟩ := hf
  have hk4c0 := hk4.cell (i := 0) rfl
  have hk4c1 := hk4.cell (i := 1) rfl
  have hk4c2 := hk4.cell (i := 2) rfl
  have hk4c3 := hk4.cell (i := 3) rfl
  have hk4l := hk4.lt
  have hk4f0 := hk4.frozen 0
  have hk4f1 := hk4.frozen 1
  have hk4f2 := hk4.frozen 2
  have hk4f3 := hk4.frozen 3
  go_wp2_with fail
  clear hk4c0 hk4c1 hk4c2 hk4c3 hk4l hk4f0 hk4f1 hk4f2 hk4f3
  obtain ⟨ws9, hws9⟩ : ∃ x, x = (st4 w6 w.heap.size (.bool s_7) (.slice A_7 n_7 c_7) (.bool s_8) (.slice A_8 n_8 c_8)) := ⟨_, rfl⟩
  have h_7' := h_7.st4 hk4 (noU4 _ _ _ _ _ _ _ _) (.bool s_7) (.slice A_7 n_7 c_7) (.bool s_8) (.slice A_8 n_8 c_8)
  have h_8' := h_8.st4 hk4 (noU4 _ _ _ _ _ _ _ _) (.bool s_7) (.slice A_7 n_7 c_7) (.bool s_8) (.slice A_8 n_8 c_8)
  rw [← hws9] at h_7'
  clear h_7
  have h_7 := h_7'
  clear h_7'
  rw [← hws9] at h_8'
  clear h_8
  have h_8 := h_8'
  clear h_8'
  replace hupw := hupw.st4 (g := w.heap.size) (by omega) (.bool s_7) (.slice A_7 n_7 c_7) (.bool s_8) (.slice A_8 n_8 c_8)
  rw [← hws9] at hupw
  replace hk4 := hk4.four (.bool s_7) (.slice A_7 n_7 c_7) (.bool s_8) (.slice A_8 n_8 c_8)
  rw [← hws9] at hk4
  have hszws9 : ws9.heap.size = w6.heap.size := by rw [hws9]; simp [st4]
  unfold st4 at hws9
  rw [← hws9]
  clear hws9
  clear hszws9
  have hk4c0 := hk4.cell (i := 0) rfl
  have hk4c1 := hk4.cell (i := 1) rfl
  have hk4c2 := hk4.cell (i := 2) rfl
  have hk4c3 := hk4.cell (i := 3) rfl
  exact bodyPost_ret (v := .tuple #[.agg #[.bool s_7, .slice A_7 n_7 c_7, .bool s_8, .slice A_8 n_8 c_8], .int .i64 (makeR x y).e]) (by simp [results, Tryz.results17, go_sem, hk4c0, hk4c1, hk4c2, hk4c3]) rfl ⟨_, rfl, Fz.mk h_7 h_8, hupw⟩
set_option maxRecDepth 100000 in
set_option maxHeartbeats 4000000 in
theorem requalF {p q : Int} (v0 v1 : Value) (w : World) (f0 : Fz w v0 (p) (q)) (f1 : Fz w v1 (p) (q)) :
    Calls Tryz.prog 18 #[v0, v1] w (PB w true) := by
  obtain ⟨s0, A0, n0, c0, t0, B0, m0, d0, rfl, h0, k0⟩ := f0
  obtain ⟨s1, A1, n1, c1, t1, B1, m1, d1, rfl, h1, k1⟩ := f1
  have hupw : Up w w := Up.refl w
  go_enter Tryz.func18, Tryz.ntmps18
  go_wp2_with fail
  obtain ⟨wa1, hwa1⟩ : ∃ x, x = ((w.alloc (.cells #[.bool s0, .slice A0 n0 c0, .bool t0, .slice B0 m0 d0] 29)).alloc (.cells #[.bool s1, .slice A1 n1 c1, .bool t1, .slice B1 m1 d1] 29)) := ⟨_, rfl⟩
  have hup : Up w wa1 := by rw [hwa1]; exact (((Up.refl w).alloc _).alloc _)
  have hzwa1 : w.heap.size ≤ w.heap.size := hupw.size
  replace h0 := h0.up hup
  replace k0 := k0.up hup
  replace h1 := h1.up hup
  replace k1 := k1.up hup
  replace hupw := hupw.trans hup
  clear hup
  have hk2 : Bk wa1 (w.heap.size) 29 #[.bool s0, .slice A0 n0 c0, .bool t0, .slice B0 m0 d0] := by
    have := ((Bk.new w 29 #[.bool s0, .slice A0 n0 c0, .bool t0, .slice B0 m0 d0]).alloc (.cells #[.bool s1, .slice A1 n1 c1, .bool t1, .slice B1 m1 d1] 29))
    rw [hwa1]; simpa using this
  have hk3 : Bk wa1 (w.heap.size + 1) 29 #[.bool s1, .slice A1 n1 c1, .bool t1, .slice B1 m1 d1] := by
    have := (Bk.new (w.alloc (.cells #[.bool s0, .slice A0 n0 c0, .bool t0, .slice B0 m0 d0] 29)) 29 #[.bool s1, .slice A1 n1 c1, .bool t1, .slice B1 m1 d1])
    rw [hwa1]; simpa using this
  rw [← hwa1]
  clear hwa1
  refine (requalQ h0 h1).mono ?_
  rintro e w2 ⟨rfl, hup⟩
  replace hk2 := hk2.up hup
  replace hk3 := hk3.up hup
  replace k0 := k0.up hup
  replace k1 := k1.up hup
  replace hupw := hupw.trans hup
  clear hup
  have hk2c0 := hk2.cell (i := 0) rfl
  have hk2c1 := hk2.cell (i := 1) rfl
  have hk2c2 := hk2.cell (i := 2) rfl
  have hk2c3 := hk2.cell (i := 3) rfl
  have hk2l := hk2.lt
  have hk3c0 := hk3.cell (i := 0) rfl
  have hk3c1 := hk3.cell (i := 1) rfl
  have hk3c2 := hk3.cell (i := 2) rfl
  have hk3c3 := hk3.cell (i := 3) rfl
  have hk3l := hk3.lt
  go_wp2_with fail
  clear hk2c0 hk2c1 hk2c2 hk2c3 hk2l hk3c0 hk3c1 hk3c2 hk3c3 hk3l
  refine (requalQ k0 k1).mono ?_
  rintro e w3 ⟨rfl, hup⟩
  replace hupw := hupw.trans hup
  clear hup
  go_wp2_with fail
  go_ret
  exact ⟨rfl, hupw⟩

end Go.Proofs.YtldifgfpecicnaaGreatDoor
