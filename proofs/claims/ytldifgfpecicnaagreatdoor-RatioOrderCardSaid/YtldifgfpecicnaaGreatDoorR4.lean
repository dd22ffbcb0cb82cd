/- Fractions: Make, Of, fraction, product of the program. -/
import Derived.Test.YtldifgfpecicnaaGreatDoorR3
namespace Go.Proofs.YtldifgfpecicnaaGreatDoor
open Go.RowKit

/-- A function of fractions returns R. -/
def PR (w : World) (R : Res) (e : Ending) (w' : World) : Prop := PFE w R.p R.q R.e e w'
theorem PR.of {w : World} {p q k : Int} {e : Ending} {w' : World} (h : PFE w p q k e w') {R : Res} (hR : R = ⟨k, p, q⟩) : PR w R e w' := by subst hR; exact h
theorem prodN {w : World} {v v' u u' : Value} {x y z t : Int} (h : Iz w v x) (h' : Iz w v' y) (k : Iz w u z) (k' : Iz w u' t) (hz : (okB (x * y) && okB (z * t)) = false) : Calls Tryz.prog 59 #[v, v', u, u'] w (PIIE w 0 0 3) := by
  cases h1 : okB (x * y) with
  | false => exact prod_no1 v v' u u' w h h' k k' h1
  | true => rw [h1] at hz; exact prod_no2 v v' u u' w h h' k k' h1 hz
set_option maxRecDepth 100000 in
set_option maxHeartbeats 4000000 in
theorem make_a (v0 v1 : Value) (w : World) (h0 : Bz w v0) (h1 : Az w v1) :
    Calls Tryz.prog 14 #[v0, v1] w (PFE w 0 0 1) := by
  obtain ⟨s0, A0, n0, c0, rfl⟩ := h0.agg
  obtain ⟨s1, A1, n1, c1, rfl⟩ := h1.agg
  have hupw : Up w w := Up.refl w
  go_enter Tryz.func14, Tryz.ntmps14
  go_wp2_with fail
  obtain ⟨wa1, hwa1⟩ : ∃ x, x = (((w.alloc (.cells #[.bool s0, .slice A0 n0 c0] 24)).alloc (.cells #[.bool s1, .slice A1 n1 c1] 24)).alloc (.cells #[.bool false, .slice none 0 0, .bool false, .slice none 0 0] 29)) := ⟨_, rfl⟩
  have hup : Up w wa1 := by rw [hwa1]; exact ((((Up.refl w).alloc _).alloc _).alloc _)
  have hzwa1 : w.heap.size ≤ w.heap.size := hupw.size
  replace h0 := h0.up hup
  replace hupw := hupw.trans hup
  clear hup
  have hk2 : Bk wa1 (w.heap.size) 24 #[.bool s0, .slice A0 n0 c0] := by
    have := (((Bk.new w 24 #[.bool s0, .slice A0 n0 c0]).alloc (.cells #[.bool s1, .slice A1 n1 c1] 24)).alloc (.cells #[.bool false, .slice none 0 0, .bool false, .slice none 0 0] 29))
    rw [hwa1]; simpa using this
  have hk3 : Bk wa1 (w.heap.size + 1) 24 #[.bool s1, .slice A1 n1 c1] := by
    have := ((Bk.new (w.alloc (.cells #[.bool s0, .slice A0 n0 c0] 24)) 24 #[.bool s1, .slice A1 n1 c1]).alloc (.cells #[.bool false, .slice none 0 0, .bool false, .slice none 0 0] 29))
    rw [hwa1]; simpa using this
  have hk4 : Bk wa1 (w.heap.size + 1 + 1) 29 #[.bool false, .slice none 0 0, .bool false, .slice none 0 0] := by
    have := (Bk.new ((w.alloc (.cells #[.bool s0, .slice A0 n0 c0] 24)).alloc (.cells #[.bool s1, .slice A1 n1 c1] 24)) 29 #[.bool false, .slice none 0 0, .bool false, .slice none 0 0])
    rw [hwa1]; simpa using this
  rw [← hwa1]
  clear hwa1
  refine (validB h0).mono ?_
  rintro e w2 ⟨rfl, hup⟩
  replace hk4 := hk4.up hup
  replace hupw := hupw.trans hup
  clear hup
  have hk4c0 := hk4.cell (i := 0) rfl
  have hk4c1 := hk4.cell (i := 1) rfl
  have hk4c2 := hk4.cell (i := 2) rfl
  have hk4c3 := hk4.cell (i := 3) rfl
  have hk4l := hk4.lt
  have hk4f0 := hk4.frozen 0
  have hk4f1 := hk4.frozen 1
  have hk4f2 := hk4.frozen 2
  have hk4f3 := hk4.frozen 3
  go_wp2_with fail
  clear hk4c0 hk4c1 hk4c2 hk4c3 hk4l hk4f0 hk4f1 hk4f2 hk4f3
  obtain ⟨ws3, hws3⟩ : ∃ x, x = (st4 w2 (w.heap.size + 1 + 1) (.bool false) (.slice none 0 0) (.bool false) (.slice none 0 0)) := ⟨_, rfl⟩
  replace hupw := hupw.st4 (g := (w.heap.size + 1 + 1)) (by omega) (.bool false) (.slice none 0 0) (.bool false) (.slice none 0 0)
  rw [← hws3] at hupw
  replace hk4 := hk4.four (.bool false) (.slice none 0 0) (.bool false) (.slice none 0 0)
  rw [← hws3] at hk4
  have hszws3 : ws3.heap.size = w2.heap.size := by rw [hws3]; simp [st4]
  unfold st4 at hws3
  rw [← hws3]
  clear hws3
  clear hszws3
  have hk4c0 := hk4.cell (i := 0) rfl
  have hk4c1 := hk4.cell (i := 1) rfl
  have hk4c2 := hk4.cell (i := 2) rfl
  have hk4c3 := hk4.cell (i := 3) rfl
  exact bodyPost_ret (v := .tuple #[.agg #[.bool false, .slice none 0 0, .bool false, .slice none 0 0], .int .i64 1]) (by simp [results, Tryz.results14, go_sem, hk4c0, hk4c1, hk4c2, hk4c3]) rfl ⟨_, rfl, Fz.mk (Iz.zero _) (Iz.zero _), hupw⟩
set_option maxRecDepth 100000 in
set_option maxHeartbeats 4000000 in
theorem make_b {x : Int} (v0 v1 : Value) (w : World) (h0 : Iz w v0 (x)) (h1 : Bz w v1) :
    Calls Tryz.prog 14 #[v0, v1] w (PFE w 0 0 1) := by
  obtain ⟨s0, A0, n0, c0, rfl⟩ := h0.agg
  obtain ⟨s1, A1, n1, c1, rfl⟩ := h1.agg
  have hupw : Up w w := Up.refl w
  go_enter Tryz.func14, Tryz.ntmps14
  go_wp2_with fail
  obtain ⟨wa1, hwa1⟩ : ∃ x, x = (((w.alloc (.cells #[.bool s0, .slice A0 n0 c0] 24)).alloc (.cells #[.bool s1, .slice A1 n1 c1] 24)).alloc (.cells #[.bool false, .slice none 0 0, .bool false, .slice none 0 0] 29)) := ⟨_, rfl⟩
  have hup : Up w wa1 := by rw [hwa1]; exact ((((Up.refl w).alloc _).alloc _).alloc _)
  have hzwa1 : w.heap.size ≤ w.heap.size := hupw.size
  replace h0 := h0.up hup
  replace h1 := h1.up hup
  replace hupw := hupw.trans hup
  clear hup
  have hk2 : Bk wa1 (w.heap.size) 24 #[.bool s0, .slice A0 n0 c0] := by
    have := (((Bk.new w 24 #[.bool s0, .slice A0 n0 c0]).alloc (.cells #[.bool s1, .slice A1 n1 c1] 24)).alloc (.cells #[.bool false, .slice none 0 0, .bool false, .slice none 0 0] 29))
    rw [hwa1]; simpa using this
  have hk3 : Bk wa1 (w.heap.size + 1) 24 #[.bool s1, .slice A1 n1 c1] := by
    have := ((Bk.new (w.alloc (.cells #[.bool s0, .slice A0 n0 c0] 24)) 24 #[.bool s1, .slice A1 n1 c1]).alloc (.cells #[.bool false, .slice none 0 0, .bool false, .slice none 0 0] 29))
    rw [hwa1]; simpa using this
  have hk4 : Bk wa1 (w.heap.size + 1 + 1) 29 #[.bool false, .slice none 0 0, .bool false, .slice none 0 0] := by
    have := (Bk.new ((w.alloc (.cells #[.bool s0, .slice A0 n0 c0] 24)).alloc (.cells #[.bool s1, .slice A1 n1 c1] 24)) 29 #[.bool false, .slice none 0 0, .bool false, .slice none 0 0])
    rw [hwa1]; simpa using this
  rw [← hwa1]
  clear hwa1
  refine (validQ h0).mono ?_
  rintro e w2 ⟨rfl, hup⟩
  replace hk3 := hk3.up hup
  replace hk4 := hk4.up hup
  replace h1 := h1.up hup
  replace hupw := hupw.trans hup
  clear hup
  have hk3c0 := hk3.cell (i := 0) rfl
  have hk3c1 := hk3.cell (i := 1) rfl
  have hk3l := hk3.lt
  go_wp2_with fail
  clear hk3c0 hk3c1 hk3l
  refine (validB h1).mono ?_
  rintro e w3 ⟨rfl, hup⟩
  replace hk4 := hk4.up hup
  replace hupw := hupw.trans hup
  clear hup
  have hk4c0 := hk4.cell (i := 0) rfl
  have hk4c1 := hk4.cell (i := 1) rfl
  have hk4c2 := hk4.cell (i := 2) rfl
  have hk4c3 := hk4.cell (i := 3) rfl
  have hk4l := hk4.lt
  have hk4f0 := hk4.frozen 0
  have hk4f1 := hk4.frozen 1
  have hk4f2 := hk4.frozen 2
  have hk4f3 := hk4.frozen 3
  go_wp2_with fail
  clear hk4c0 hk4c1 hk4c2 hk4c3 hk4l hk4f0 hk4f1 hk4f2 hk4f3
  obtain ⟨ws4, hws4⟩ : ∃ x, x = (st4 w3 (w.heap.size + 1 + 1) (.bool false) (.slice none 0 0) (.bool false) (.slice none 0 0)) := ⟨_, rfl⟩
  replace hupw := hupw.st4 (g := (w.heap.size + 1 + 1)) (by omega) (.bool false) (.slice none 0 0) (.bool false) (.slice none 0 0)
  rw [← hws4] at hupw
  replace hk4 := hk4.four (.bool false) (.slice none 0 0) (.bool false) (.slice none 0 0)
  rw [← hws4] at hk4
  have hszws4 : ws4.heap.size = w3.heap.size := by rw [hws4]; simp [st4]
  unfold st4 at hws4
  rw [← hws4]
  clear hws4
  clear hszws4
  have hk4c0 := hk4.cell (i := 0) rfl
  have hk4c1 := hk4.cell (i := 1) rfl
  have hk4c2 := hk4.cell (i := 2) rfl
  have hk4c3 := hk4.cell (i := 3) rfl
  exact bodyPost_ret (v := .tuple #[.agg #[.bool false, .slice none 0 0, .bool false, .slice none 0 0], .int .i64 1]) (by simp [results, Tryz.results14, go_sem, hk4c0, hk4c1, hk4c2, hk4c3]) rfl ⟨_, rfl, Fz.mk (Iz.zero _) (Iz.zero _), hupw⟩
set_option maxRecDepth 100000 in
set_option maxHeartbeats 4000000 in
theorem make_0 {x y : Int} (v0 v1 : Value) (w : World) (h0 : Iz w v0 (x)) (h1 : Iz w v1 (y)) (hy : y = 0) :
    Calls Tryz.prog 14 #[v0, v1] w (PFE w 0 0 8) := by
  obtain ⟨s0, A0, n0, c0, rfl⟩ := h0.agg
  obtain ⟨s1, A1, n1, c1, rfl⟩ := h1.agg
  have hupw : Up w w := Up.refl w
  go_enter Tryz.func14, Tryz.ntmps14
  go_wp2_with fail
  obtain ⟨wa1, hwa1⟩ : ∃ x, x = (((w.alloc (.cells #[.bool s0, .slice A0 n0 c0] 24)).alloc (.cells #[.bool s1, .slice A1 n1 c1] 24)).alloc (.cells #[.bool false, .slice none 0 0, .bool false, .slice none 0 0] 29)) := ⟨_, rfl⟩
  have hup : Up w wa1 := by rw [hwa1]; exact ((((Up.refl w).alloc _).alloc _).alloc _)
  have hzwa1 : w.heap.size ≤ w.heap.size := hupw.size
  replace h0 := h0.up hup
  replace h1 := h1.up hup
  replace hupw := hupw.trans hup
  clear hup
  have hk2 : Bk wa1 (w.heap.size) 24 #[.bool s0, .slice A0 n0 c0] := by
    have := (((Bk.new w 24 #[.bool s0, .slice A0 n0 c0]).alloc (.cells #[.bool s1, .slice A1 n1 c1] 24)).alloc (.cells #[.bool false, .slice none 0 0, .bool false, .slice none 0 0] 29))
    rw [hwa1]; simpa using this
  have hk3 : Bk wa1 (w.heap.size + 1) 24 #[.bool s1, .slice A1 n1 c1] := by
    have := ((Bk.new (w.alloc (.cells #[.bool s0, .slice A0 n0 c0] 24)) 24 #[.bool s1, .slice A1 n1 c1]).alloc (.cells #[.bool false, .slice none 0 0, .bool false, .slice none 0 0] 29))
    rw [hwa1]; simpa using this
  have hk4 : Bk wa1 (w.heap.size + 1 + 1) 29 #[.bool false, .slice none 0 0, .bool false, .slice none 0 0] := by
    have := (Bk.new ((w.alloc (.cells #[.bool s0, .slice A0 n0 c0] 24)).alloc (.cells #[.bool s1, .slice A1 n1 c1] 24)) 29 #[.bool false, .slice none 0 0, .bool false, .slice none 0 0])
    rw [hwa1]; simpa using this
  rw [← hwa1]
  clear hwa1
  refine (validQ h0).mono ?_
  rintro e w2 ⟨rfl, hup⟩
  replace hk3 := hk3.up hup
  replace hk4 := hk4.up hup
  replace h1 := h1.up hup
  replace hupw := hupw.trans hup
  clear hup
  have hk3c0 := hk3.cell (i := 0) rfl
  have hk3c1 := hk3.cell (i := 1) rfl
  have hk3l := hk3.lt
  go_wp2_with fail
  clear hk3c0 hk3c1 hk3l
  refine (validQ h1).mono ?_
  rintro e w3 ⟨rfl, hup⟩
  replace hk3 := hk3.up hup
  replace hk4 := hk4.up hup
  replace h1 := h1.up hup
  replace hupw := hupw.trans hup
  clear hup
  have hk3c0 := hk3.cell (i := 0) rfl
  have hk3c1 := hk3.cell (i := 1) rfl
  have hk3l := hk3.lt
  go_wp2_with fail
  clear hk3c0 hk3c1 hk3l
  refine (signQ 0 h1 (Int.sign_eq_zero_iff_zero.2 hy)).mono ?_
  rintro e w4 ⟨rfl, hup⟩
  replace hk4 := hk4.up hup
  replace hupw := hupw.trans hup
  clear hup
  have hk4c0 := hk4.cell (i := 0) rfl
  have hk4c1 := hk4.cell (i := 1) rfl
  have hk4c2 := hk4.cell (i := 2) rfl
  have hk4c3 := hk4.cell (i := 3) rfl
  have hk4l := hk4.lt
  have hk4f0 := hk4.frozen 0
  have hk4f1 := hk4.frozen 1
  have hk4f2 := hk4.frozen 2
  have hk4f3 := hk4.frozen 3
  go_wp2_with fail
  clear hk4c0 hk4c1 hk4c2 hk4c3 hk4l hk4f0 hk4f1 hk4f2 hk4f3
  obtain ⟨ws5, hws5⟩ : ∃ x, x = (st4 w4 (w.heap.size + 1 + 1) (.bool false) (.slice none 0 0) (.bool false) (.slice none 0 0)) := ⟨_, rfl⟩
  replace hupw := hupw.st4 (g := (w.heap.size + 1 + 1)) (by omega) (.bool false) (.slice none 0 0) (.bool false) (.slice none 0 0)
  rw [← hws5] at hupw
  replace hk4 := hk4.four (.bool false) (.slice none 0 0) (.bool false) (.slice none 0 0)
  rw [← hws5] at hk4
  have hszws5 : ws5.heap.size = w4.heap.size := by rw [hws5]; simp [st4]
  unfold st4 at hws5
  rw [← hws5]
  clear hws5
  clear hszws5
  have hk4c0 := hk4.cell (i := 0) rfl
  have hk4c1 := hk4.cell (i := 1) rfl
  have hk4c2 := hk4.cell (i := 2) rfl
  have hk4c3 := hk4.cell (i := 3) rfl
  exact bodyPost_ret (v := .tuple #[.agg #[.bool false, .slice none 0 0, .bool false, .slice none 0 0], .int .i64 8]) (by simp [results, Tryz.results14, go_sem, hk4c0, hk4c1, hk4c2, hk4c3]) rfl ⟨_, rfl, Fz.mk (Iz.zero _) (Iz.zero _), hupw⟩
set_option maxRecDepth 100000 in
set_option maxHeartbeats 4000000 in
theorem make_p {x y : Int} (v0 v1 : Value) (w : World) (h0 : Iz w v0 (x)) (h1 : Iz w v1 (y)) (hy : 0 < y) :
    Calls Tryz.prog 14 #[v0, v1] w (PFE w (nm (fr x y)) (dn (fr x y)) 0) := by
  obtain ⟨s0, A0, n0, c0, rfl⟩ := h0.agg
  obtain ⟨s1, A1, n1, c1, rfl⟩ := h1.agg
  have hupw : Up w w := Up.refl w
  go_enter Tryz.func14, Tryz.ntmps14
  go_wp2_with fail
  obtain ⟨wa1, hwa1⟩ : ∃ x, x = (((w.alloc (.cells #[.bool s0, .slice A0 n0 c0] 24)).alloc (.cells #[.bool s1, .slice A1 n1 c1] 24)).alloc (.cells #[.bool false, .slice none 0 0, .bool false, .slice none 0 0] 29)) := ⟨_, rfl⟩
  have hup : Up w wa1 := by rw [hwa1]; exact ((((Up.refl w).alloc _).alloc _).alloc _)
  have hzwa1 : w.heap.size ≤ w.heap.size := hupw.size
  replace h0 := h0.up hup
  replace h1 := h1.up hup
  replace hupw := hupw.trans hup
  clear hup
  have hk2 : Bk wa1 (w.heap.size) 24 #[.bool s0, .slice A0 n0 c0] := by
    have := (((Bk.new w 24 #[.bool s0, .slice A0 n0 c0]).alloc (.cells #[.bool s1, .slice A1 n1 c1] 24)).alloc (.cells #[.bool false, .slice none 0 0, .bool false, .slice none 0 0] 29))
    rw [hwa1]; simpa using this
  have hk3 : Bk wa1 (w.heap.size + 1) 24 #[.bool s1, .slice A1 n1 c1] := by
    have := ((Bk.new (w.alloc (.cells #[.bool s0, .slice A0 n0 c0] 24)) 24 #[.bool s1, .slice A1 n1 c1]).alloc (.cells #[.bool false, .slice none 0 0, .bool false, .slice none 0 0] 29))
    rw [hwa1]; simpa using this
  have hk4 : Bk wa1 (w.heap.size + 1 + 1) 29 #[.bool false, .slice none 0 0, .bool false, .slice none 0 0] := by
    have := (Bk.new ((w.alloc (.cells #[.bool s0, .slice A0 n0 c0] 24)).alloc (.cells #[.bool s1, .slice A1 n1 c1] 24)) 29 #[.bool false, .slice none 0 0, .bool false, .slice none 0 0])
    rw [hwa1]; simpa using this
  rw [← hwa1]
  clear hwa1
  refine (validQ h0).mono ?_
  rintro e w2 ⟨rfl, hup⟩
  replace hk2 := hk2.up hup
  replace hk3 := hk3.up hup
  replace hk4 := hk4.up hup
  replace h0 := h0.up hup
  replace h1 := h1.up hup
  replace hupw := hupw.trans hup
  clear hup
  have hk3c0 := hk3.cell (i := 0) rfl
  have hk3c1 := hk3.cell (i := 1) rfl
  have hk3l := hk3.lt
  go_wp2_with fail
  clear hk3c0 hk3c1 hk3l
  refine (validQ h1).mono ?_
  rintro e w3 ⟨rfl, hup⟩
  replace hk2 := hk2.up hup
  replace hk3 := hk3.up hup
  replace hk4 := hk4.up hup
  replace h0 := h0.up hup
  replace h1 := h1.up hup
  replace hupw := hupw.trans hup
  clear hup
  have hk3c0 := hk3.cell (i := 0) rfl
  have hk3c1 := hk3.cell (i := 1) rfl
  have hk3l := hk3.lt
  go_wp2_with fail
  clear hk3c0 hk3c1 hk3l
  refine (signQ 1 h1 (Int.sign_eq_one_of_pos hy)).mono ?_
  rintro e w4 ⟨rfl, hup⟩
  replace hk2 := hk2.up hup
  replace hk3 := hk3.up hup
  replace hk4 := hk4.up hup
  replace h0 := h0.up hup
  replace h1 := h1.up hup
  replace hupw := hupw.trans hup
  clear hup
  have hk2c0 := hk2.cell (i := 0) rfl
  have hk2c1 := hk2.cell (i := 1) rfl
  have hk2l := hk2.lt
  have hk3c0 := hk3.cell (i := 0) rfl
  have hk3c1 := hk3.cell (i := 1) rfl
  have hk3l := hk3.lt
  go_wp2_with fail
  clear hk2c0 hk2c1 hk2l hk3c0 hk3c1 hk3l
  refine (lowQ h0 h1 (by omega)).mono ?_
  rintro e w5 ⟨vf, rfl, hf, hup⟩
  replace hk4 := hk4.up hup
  replace hupw := hupw.trans hup
  clear hup
  obtain ⟨s_6, A_6, n_6, c_6, s_7, A_7, n_7, c_7, rfl, h_6, h_7⟩ := hf
  have hk4c0 := hk4.cell (i := 0) rfl
  have hk4c1 := hk4.cell (i := 1) rfl
  have hk4c2 := hk4.cell (i := 2) rfl
  have hk4c3 := hk4.cell (i := 3) rfl
  have hk4l := hk4.lt
  have hk4f0 := hk4.frozen 0
  have hk4f1 := hk4.frozen 1
  have hk4f2 := hk4.frozen 2
  have hk4f3 := hk4.frozen 3
  go_wp2_with fail
  clear hk4c0 hk4c1 hk4c2 hk4c3 hk4l hk4f0 hk4f1 hk4f2 hk4f3
  obtain ⟨ws8, hws8⟩ : ∃ x, x = (st4 w5 (w.heap.size + 1 + 1) (.bool s_6) (.slice A_6 n_6 c_6) (.bool s_7) (.slice A_7 n_7 c_7)) := ⟨_, rfl⟩
  have h_6' := h_6.st4 hk4 (noU4 _ _ _ _ _ _ _ _) (.bool s_6) (.slice A_6 n_6 c_6) (.bool s_7) (.slice A_7 n_7 c_7)
  have h_7' := h_7.st4 hk4 (noU4 _ _ _ _ _ _ _ _) (.bool s_6) (.slice A_6 n_6 c_6) (.bool s_7) (.slice A_7 n_7 c_7)
  rw [← hws8] at h_6'
  clear h_6
  have h_6 := h_6'
  clear h_6'
  rw [← hws8] at h_7'
  clear h_7
  have h_7 := h_7'
  clear h_7'
  replace hupw := hupw.st4 (g := (w.heap.size + 1 + 1)) (by omega) (.bool s_6) (.slice A_6 n_6 c_6) (.bool s_7) (.slice A_7 n_7 c_7)
  rw [← hws8] at hupw
  replace hk4 := hk4.four (.bool s_6) (.slice A_6 n_6 c_6) (.bool s_7) (.slice A_7 n_7 c_7)
  rw [← hws8] at hk4
  have hszws8 : ws8.heap.size = w5.heap.size := by rw [hws8]; simp [st4]
  unfold st4 at hws8
  rw [← hws8]
  clear hws8
  clear hszws8
  have hk4c0 := hk4.cell (i := 0) rfl
  have hk4c1 := hk4.cell (i := 1) rfl
  have hk4c2 := hk4.cell (i := 2) rfl
  have hk4c3 := hk4.cell (i := 3) rfl
  exact bodyPost_ret (v := .tuple #[.agg #[.bool s_6, .slice A_6 n_6 c_6, .bool s_7, .slice A_7 n_7 c_7], .int .i64 0]) (by simp [results, Tryz.results14, go_sem, hk4c0, hk4c1, hk4c2, hk4c3]) rfl ⟨_, rfl, Fz.mk h_6 h_7, hupw⟩
set_option maxRecDepth 100000 in
set_option maxHeartbeats 4000000 in
theorem make_m {x y : Int} (v0 v1 : Value) (w : World) (h0 : Iz w v0 (x)) (h1 : Iz w v1 (y)) (hy : y < 0) :
    Calls Tryz.prog 14 #[v0, v1] w (PFE w (nm (fr x y)) (dn (fr x y)) 0) := by
  obtain ⟨s0, A0, n0, c0, rfl⟩ := h0.agg
  obtain ⟨s1, A1, n1, c1, rfl⟩ := h1.agg
  have hupw : Up w w := Up.refl w
  go_enter Tryz.func14, Tryz.ntmps14
  go_wp2_with fail
  obtain ⟨wa1, hwa1⟩ : ∃ x, x = (((w.alloc (.cells #[.bool s0, .slice A0 n0 c0] 24)).alloc (.cells #[.bool s1, .slice A1 n1 c1] 24)).alloc (.cells #[.bool false, .slice none 0 0, .bool false, .slice none 0 0] 29)) := ⟨_, rfl⟩
  have hup : Up w wa1 := by rw [hwa1]; exact ((((Up.refl w).alloc _).alloc _).alloc _)
  have hzwa1 : w.heap.size ≤ w.heap.size := hupw.size
  replace h0 := h0.up hup
  replace h1 := h1.up hup
  replace hupw := hupw.trans hup
  clear hup
  have hk2 : Bk wa1 (w.heap.size) 24 #[.bool s0, .slice A0 n0 c0] := by
    have := (((Bk.new w 24 #[.bool s0, .slice A0 n0 c0]).alloc (.cells #[.bool s1, .slice A1 n1 c1] 24)).alloc (.cells #[.bool false, .slice none 0 0, .bool false, .slice none 0 0] 29))
    rw [hwa1]; simpa using this
  have hk3 : Bk wa1 (w.heap.size + 1) 24 #[.bool s1, .slice A1 n1 c1] := by
    have := ((Bk.new (w.alloc (.cells #[.bool s0, .slice A0 n0 c0] 24)) 24 #[.bool s1, .slice A1 n1 c1]).alloc (.cells #[.bool false, .slice none 0 0, .bool false, .slice none 0 0] 29))
    rw [hwa1]; simpa using this
  have hk4 : Bk wa1 (w.heap.size + 1 + 1) 29 #[.bool false, .slice none 0 0, .bool false, .slice none 0 0] := by
    have := (Bk.new ((w.alloc (.cells #[.bool s0, .slice A0 n0 c0] 24)).alloc (.cells #[.bool s1, .slice A1 n1 c1] 24)) 29 #[.bool false, .slice none 0 0, .bool false, .slice none 0 0])
    rw [hwa1]; simpa using this
  rw [← hwa1]
  clear hwa1
  refine (validQ h0).mono ?_
  rintro e w2 ⟨rfl, hup⟩
  replace hk2 := hk2.up hup
  replace hk3 := hk3.up hup
  replace hk4 := hk4.up hup
  replace h0 := h0.up hup
  replace h1 := h1.up hup
  replace hupw := hupw.trans hup
  clear hup
  have hk3c0 := hk3.cell (i := 0) rfl
  have hk3c1 := hk3.cell (i := 1) rfl
  have hk3l := hk3.lt
  go_wp2_with fail
  clear hk3c0 hk3c1 hk3l
  refine (validQ h1).mono ?_
  rintro e w3 ⟨rfl, hup⟩
  replace hk2 := hk2.up hup
  replace hk3 := hk3.up hup
  replace hk4 := hk4.up hup
  replace h0 := h0.up hup
  replace h1 := h1.up hup
  replace hupw := hupw.trans hup
  clear hup
  have hk3c0 := hk3.cell (i := 0) rfl
  have hk3c1 := hk3.cell (i := 1) rfl
  have hk3l := hk3.lt
  go_wp2_with fail
  clear hk3c0 hk3c1 hk3l
  refine (signQ (-1) h1 (Int.sign_eq_neg_one_of_neg hy)).mono ?_
  rintro e w4 ⟨rfl, hup⟩
  replace hk2 := hk2.up hup
  replace hk3 := hk3.up hup
  replace hk4 := hk4.up hup
  replace h0 := h0.up hup
  replace h1 := h1.up hup
  replace hupw := hupw.trans hup
  clear hup
  have hk2c0 := hk2.cell (i := 0) rfl
  have hk2c1 := hk2.cell (i := 1) rfl
  have hk2l := hk2.lt
  have hk3c0 := hk3.cell (i := 0) rfl
  have hk3c1 := hk3.cell (i := 1) rfl
  have hk3l := hk3.lt
  go_wp2_with fail
  clear hk2c0 hk2c1 hk2l hk3c0 hk3c1 hk3l
  refine (lowQ h0 h1 (by omega)).mono ?_
  rintro e w5 ⟨vf, rfl, hf, hup⟩
  replace hk4 := hk4.up hup
  replace hupw := hupw.trans hup
  clear hup
  obtain ⟨s_6, A_6, n_6, c_6, s_7, A_7, n_7, c_7, rfl, h_6, h_7⟩ := hf
  have hk4c0 := hk4.cell (i := 0) rfl
  have hk4c1 := hk4.cell (i := 1) rfl
  have hk4c2 := hk4.cell (i := 2) rfl
  have hk4c3 := hk4.cell (i := 3) rfl
  have hk4l := hk4.lt
  have hk4f0 := hk4.frozen 0
  have hk4f1 := hk4.frozen 1
  have hk4f2 := hk4.frozen 2
  have hk4f3 := hk4.frozen 3
  go_wp2_with fail
  clear hk4c0 hk4c1 hk4c2 hk4c3 hk4l hk4f0 hk4f1 hk4f2 hk4f3
  obtain ⟨ws8, hws8⟩ : ∃ x, x = (st4 w5 (w.heap.size + 1 + 1) (.bool s_6) (.slice A_6 n_6 c_6) (.bool s_7) (.slice A_7 n_7 c_7)) := ⟨_, rfl⟩
  have h_6' := h_6.st4 hk4 (noU4 _ _ _ _ _ _ _ _) (.bool s_6) (.slice A_6 n_6 c_6) (.bool s_7) (.slice A_7 n_7 c_7)
  have h_7' := h_7.st4 hk4 (noU4 _ _ _ _ _ _ _ _) (.bool s_6) (.slice A_6 n_6 c_6) (.bool s_7) (.slice A_7 n_7 c_7)
  rw [← hws8] at h_6'
  clear h_6
  have h_6 := h_6'
  clear h_6'
  rw [← hws8] at h_7'
  clear h_7
  have h_7 := h_7'
  clear h_7'
  replace hupw := hupw.st4 (g := (w.heap.size + 1 + 1)) (by omega) (.bool s_6) (.slice A_6 n_6 c_6) (.bool s_7) (.slice A_7 n_7 c_7)
  rw [← hws8] at hupw
  replace hk4 := hk4.four (.bool s_6) (.slice A_6 n_6 c_6) (.bool s_7) (.slice A_7 n_7 c_7)
  rw [← hws8] at hk4
  have hszws8 : ws8.heap.size = w5.heap.size := by rw [hws8]; simp [st4]
  unfold st4 at hws8
  rw [← hws8]
  clear hws8
  clear hszws8
  have hk4c0 := hk4.cell (i := 0) rfl
  have hk4c1 := hk4.cell (i := 1) rfl
  have hk4c2 := hk4.cell (i := 2) rfl
  have hk4c3 := hk4.cell (i := 3) rfl
  exact bodyPost_ret (v := .tuple #[.agg #[.bool s_6, .slice A_6 n_6 c_6, .bool s_7, .slice A_7 n_7 c_7], .int .i64 0]) (by simp [results, Tryz.results14, go_sem, hk4c0, hk4c1, hk4c2, hk4c3]) rfl ⟨_, rfl, Fz.mk h_6 h_7, hupw⟩
/-- What Make gives of two integers. -/
def makeR (x y : Int) : Res := if y = 0 then noR 8 else okR (fr x y)
theorem makeQ {w : World} {v v' : Value} {x y : Int} (h : Iz w v x) (h' : Iz w v' y) : Calls Tryz.prog 14 #[v, v'] w (PR w (makeR x y)) := by
  unfold makeR
  rcases Int.lt_trichotomy y 0 with hy | hy | hy
  · rw [if_neg (by omega)]; exact make_m v v' w h h' hy
  · rw [if_pos hy]; exact make_0 v v' w h h' hy
  · rw [if_neg (by omega)]; exact make_p v v' w h h' hy
theorem makeB {w : World} {v v' : Value} (h : Az w v) (h' : Az w v') (hb : Bz w v ∨ Bz w v') : Calls Tryz.prog 14 #[v, v'] w (PR w (noR 1)) := by
  rcases h.or with k | ⟨x, k⟩
  · exact make_a v v' w k h'
  · rcases hb with hb | hb
    · exact make_a v v' w hb h'
    · exact make_b v v' w k hb
set_option maxRecDepth 100000 in
set_option maxHeartbeats 4000000 in
theorem ofRQ (x y : Int) (w : World)  (h0l : -9223372036854775808 ≤ x) (h0u : x ≤ 9223372036854775807) (h1l : -9223372036854775808 ≤ y) (h1u : y ≤ 9223372036854775807) :
    Calls Tryz.prog 16 #[.int .i64 x, .int .i64 y] w (PR w (makeR x y)) := by
  have hupw : Up w w := Up.refl w
  go_enter Tryz.func16, Tryz.ntmps16
  go_wp2_with fail
  obtain ⟨wa1, hwa1⟩ : ∃ x, x = (w.alloc (.cells #[.bool false, .slice none 0 0, .bool false, .slice none 0 0] 29)) := ⟨_, rfl⟩
  have hup : Up w wa1 := by rw [hwa1]; exact ((Up.refl w).alloc _)
  have hzwa1 : w.heap.size ≤ w.heap.size := hupw.size
  replace hupw := hupw.trans hup
  clear hup
  have hk4 : Bk wa1 (w.heap.size) 29 #[.bool false, .slice none 0 0, .bool false, .slice none 0 0] := by
    have := (Bk.new w 29 #[.bool false, .slice none 0 0, .bool false, .slice none 0 0])
    rw [hwa1]; simpa using this
  rw [← hwa1]
  clear hwa1
  refine (ofQ x h0l h0u).mono ?_
  rintro e w2 ⟨v_3, rfl, h_3, hup⟩
  replace hk4 := hk4.up hup
  replace hupw := hupw.trans hup
  clear hup
  obtain ⟨s_3, A_3, n_3, c_3, rfl⟩ := h_3.agg
  go_wp2_with fail
  refine (ofQ y h1l h1u).mono ?_
  rintro e w4 ⟨v_5, rfl, h_5, hup⟩
  replace hk4 := hk4.up hup
  replace h_3 := h_3.up hup
  replace hupw := hupw.trans hup
  clear hup
  obtain ⟨s_5, A_5, n_5, c_5, rfl⟩ := h_5.agg
  go_wp2_with fail
  refine (makeQ h_3 h_5).mono ?_
  rintro e w6 ⟨vf, rfl, hf, hup⟩
  replace hk4 := hk4.up hup
  replace hupw := hupw.trans hup
  clear hup
  obtain ⟨s_7, A_7, n_7, c_7, s_8, A_8, n_8, c_8, rfl, h_7, h_8⟩ := hf
  have hk4c0 := hk4.cell (i := 0) rfl
  have hk4c1 := hk4.cell (i := 1) rfl
  have hk4c2 := hk4.cell (i := 2) rfl
  have hk4c3 := hk4.cell (i := 3) rfl
  have hk4l := hk4.lt
  have hk4f0 := hk4.frozen 0
  have hk4f1 := hk4.frozen 1
  have hk4f2 := hk4.frozen 2
  have hk4f3 := hk4.frozen 3
  go_wp2_with fail
  clear hk4c0 hk4c1 hk4c2 hk4c3 hk4l hk4f0 hk4f1 hk4f2 hk4f3
  obtain ⟨ws9, hws9⟩ : ∃ x, x = (st4 w6 w.heap.size (.bool s_7) (.slice A_7 n_7 c_7) (.bool s_8) (.slice A_8 n_8 c_8)) := ⟨_, rfl⟩
  have h_7' := h_7.st4 hk4 (noU4 _ _ _ _ _ _ _ _) (.bool s_7) (.slice A_7 n_7 c_7) (.bool s_8) (.slice A_8 n_8 c_8)
  have h_8' := h_8.st4 hk4 (noU4 _ _ _ _ _ _ _ _) (.bool s_7) (.slice A_7 n_7 c_7) (.bool s_8) (.slice A_8 n_8 c_8)
  rw [← hws9] at h_7'
  clear h_7
  have h_7 := h_7'
  clear h_7'
  rw [← hws9] at h_8'
  clear h_8
  have h_8 := h_8'
  clear h_8'
  replace hupw := hupw.st4 (g := w.heap.size) (by omega) (.bool s_7) (.slice A_7 n_7 c_7) (.bool s_8) (.slice A_8 n_8 c_8)
  rw [← hws9] at hupw
  replace hk4 := hk4.four (.bool s_7) (.slice A_7 n_7 c_7) (.bool s_8) (.slice A_8 n_8 c_8)
  rw [← hws9] at hk4
  have hszws9 : ws9.heap.size = w6.heap.size := by rw [hws9]; simp [st4]
  unfold st4 at hws9
  rw [← hws9]
  clear hws9
  clear hszws9
  have hk4c0 := hk4.cell (i := 0) rfl
  have hk4c1 := hk4.cell (i := 1) rfl
  have hk4c2 := hk4.cell (i := 2) rfl
  have hk4c3 := hk4.cell (i := 3) rfl
  exact bodyPost_ret (v := .tuple #[.agg #[.bool s_7, .slice A_7 n_7 c_7, .bool s_8, .slice A_8 n_8 c_8], .int .i64 (makeR x y).e]) (by simp [results, Tryz.results16, go_sem, hk4c0, hk4c1, hk4c2, hk4c3]) rfl ⟨_, rfl, Fz.mk h_7 h_8, hupw⟩
set_option maxRecDepth 100000 in
set_option maxHeartbeats 4000000 in
theorem frac_n {x y z u : Int} (v0 v1 v2 v3 : Value) (w : World) (h0 : Iz w v0 (x)) (h1 : Iz w v1 (y)) (h2 : Iz w v2 (z)) (h3 : Iz w v3 (u)) (hb : (okB (x * y) && okB (z * u)) = false) :
    Calls Tryz.prog 65 #[v0, v1, v2, v3] w (PFE w 0 0 3) := by
  obtain ⟨s0, A0, n0, c0, rfl⟩ := h0.agg
  obtain ⟨s1, A1, n1, c1, rfl⟩ := h1.agg
  obtain ⟨s2, A2, n2, c2, rfl⟩ := h2.agg
  obtain ⟨s3, A3, n3, c3, rfl⟩ := h3.agg
  have hupw : Up w w := Up.refl w
  go_enter Tryz.func65, Tryz.ntmps65
  go_wp2_with fail
  obtain ⟨wa1, hwa1⟩ : ∃ x, x = (((((w.alloc (.cells #[.bool s0, .slice A0 n0 c0] 24)).alloc (.cells #[.bool s1, .slice A1 n1 c1] 24)).alloc (.cells #[.bool s2, .slice A2 n2 c2] 24)).alloc (.cells #[.bool s3, .slice A3 n3 c3] 24)).alloc (.cells #[.bool false, .slice none 0 0, .bool false, .slice none 0 0] 29)) := ⟨_, rfl⟩
  have hup : Up w wa1 := by rw [hwa1]; exact ((((((Up.refl w).alloc _).alloc _).alloc _).alloc _).alloc _)
  have hzwa1 : w.heap.size ≤ w.heap.size := hupw.size
  replace h0 := h0.up hup
  replace h1 := h1.up hup
  replace h2 := h2.up hup
  replace h3 := h3.up hup
  replace hupw := hupw.trans hup
  clear hup
  have hk4 : Bk wa1 (w.heap.size) 24 #[.bool s0, .slice A0 n0 c0] := by
    have := (((((Bk.new w 24 #[.bool s0, .slice A0 n0 c0]).alloc (.cells #[.bool s1, .slice A1 n1 c1] 24)).alloc (.cells #[.bool s2, .slice A2 n2 c2] 24)).alloc (.cells #[.bool s3, .slice A3 n3 c3] 24)).alloc (.cells #[.bool false, .slice none 0 0, .bool false, .slice none 0 0] 29))
    rw [hwa1]; simpa using this
  have hk5 : Bk wa1 (w.heap.size + 1) 24 #[.bool s1, .slice A1 n1 c1] := by
    have := ((((Bk.new (w.alloc (.cells #[.bool s0, .slice A0 n0 c0] 24)) 24 #[.bool s1, .slice A1 n1 c1]).alloc (.cells #[.bool s2, .slice A2 n2 c2] 24)).alloc (.cells #[.bool s3, .slice A3 n3 c3] 24)).alloc (.cells #[.bool false, .slice none 0 0, .bool false, .slice none 0 0] 29))
    rw [hwa1]; simpa using this
  have hk6 : Bk wa1 (w.heap.size + 1 + 1) 24 #[.bool s2, .slice A2 n2 c2] := by
    have := (((Bk.new ((w.alloc (.cells #[.bool s0, .slice A0 n0 c0] 24)).alloc (.cells #[.bool s1, .slice A1 n1 c1] 24)) 24 #[.bool s2, .slice A2 n2 c2]).alloc (.cells #[.bool s3, .slice A3 n3 c3] 24)).alloc (.cells #[.bool false, .slice none 0 0, .bool false, .slice none 0 0] 29))
    rw [hwa1]; simpa using this
  have hk7 : Bk wa1 (w.heap.size + 1 + 1 + 1) 24 #[.bool s3, .slice A3 n3 c3] := by
    have := ((Bk.new (((w.alloc (.cells #[.bool s0, .slice A0 n0 c0] 24)).alloc (.cells #[.bool s1, .slice A1 n1 c1] 24)).alloc (.cells #[.bool s2, .slice A2 n2 c2] 24)) 24 #[.bool s3, .slice A3 n3 c3]).alloc (.cells #[.bool false, .slice none 0 0, .bool false, .slice none 0 0] 29))
    rw [hwa1]; simpa using this
  have hk8 : Bk wa1 (w.heap.size + 1 + 1 + 1 + 1) 29 #[.bool false, .slice none 0 0, .bool false, .slice none 0 0] := by
    have := (Bk.new ((((w.alloc (.cells #[.bool s0, .slice A0 n0 c0] 24)).alloc (.cells #[.bool s1, .slice A1 n1 c1] 24)).alloc (.cells #[.bool s2, .slice A2 n2 c2] 24)).alloc (.cells #[.bool s3, .slice A3 n3 c3] 24)) 29 #[.bool false, .slice none 0 0, .bool false, .slice none 0 0])
    rw [hwa1]; simpa using this
  rw [← hwa1]
  clear hwa1
  refine (prodN h0 h1 h2 h3 hb).mono ?_
  rintro e w2 ⟨v_3, v_4, rfl, h_3, h_4, hup⟩
  replace hk8 := hk8.up hup
  replace hupw := hupw.trans hup
  clear hup
  obtain ⟨s_3, A_3, n_3, c_3, rfl⟩ := h_3.agg
  obtain ⟨s_4, A_4, n_4, c_4, rfl⟩ := h_4.agg
  have hk8c0 := hk8.cell (i := 0) rfl
  have hk8c1 := hk8.cell (i := 1) rfl
  have hk8c2 := hk8.cell (i := 2) rfl
  have hk8c3 := hk8.cell (i := 3) rfl
  have hk8l := hk8.lt
  have hk8f0 := hk8.frozen 0
  have hk8f1 := hk8.frozen 1
  have hk8f2 := hk8.frozen 2
  have hk8f3 := hk8.frozen 3
  have hk8l1 : (w.heap.size + 1 + 1 + 1 + 1) < w2.heap.size + 1 := by omega
  go_wp2_with fail
  clear hk8c0 hk8c1 hk8c2 hk8c3 hk8l hk8f0 hk8f1 hk8f2 hk8f3 hk8l1
  obtain ⟨ws5, hws5⟩ : ∃ x, x = (st4 w2 (w.heap.size + 1 + 1 + 1 + 1) (.bool false) (.slice none 0 0) (.bool false) (.slice none 0 0)) := ⟨_, rfl⟩
  replace hupw := hupw.st4 (g := (w.heap.size + 1 + 1 + 1 + 1)) (by omega) (.bool false) (.slice none 0 0) (.bool false) (.slice none 0 0)
  rw [← hws5] at hupw
  replace hk8 := hk8.four (.bool false) (.slice none 0 0) (.bool false) (.slice none 0 0)
  rw [← hws5] at hk8
  have hszws5 : ws5.heap.size = w2.heap.size := by rw [hws5]; simp [st4]
  unfold st4 at hws5
  rw [← hws5]
  clear hws5
  obtain ⟨wa6, hwa6⟩ : ∃ x, x = ((ws5.alloc (.cells #[.bool s_3, .slice A_3 n_3 c_3] 24)).alloc (.cells #[.bool s_4, .slice A_4 n_4 c_4] 24)) := ⟨_, rfl⟩
  have hup : Up ws5 wa6 := by rw [hwa6]; exact (((Up.refl ws5).alloc _).alloc _)
  have howa6 : (w.heap.size + 1 + 1 + 1 + 1) < w2.heap.size := by have := hk8.lt; omega
  have hzwa6 : w.heap.size ≤ w2.heap.size := by have := hupw.size; omega
  replace hk8 := hk8.up hup
  replace hupw := hupw.trans hup
  clear hup
  have hk10 : Bk wa6 (w2.heap.size) 24 #[.bool s_3, .slice A_3 n_3 c_3] := by
    have := ((Bk.new ws5 24 #[.bool s_3, .slice A_3 n_3 c_3]).alloc (.cells #[.bool s_4, .slice A_4 n_4 c_4] 24))
    rw [hwa6]; simpa [hszws5] using this
  have hk11 : Bk wa6 (w2.heap.size + 1) 24 #[.bool s_4, .slice A_4 n_4 c_4] := by
    have := (Bk.new (ws5.alloc (.cells #[.bool s_3, .slice A_3 n_3 c_3] 24)) 24 #[.bool s_4, .slice A_4 n_4 c_4])
    rw [hwa6]; simpa [hszws5] using this
  rw [← hwa6]
  clear hwa6
  clear hszws5
  have hk8c0 := hk8.cell (i := 0) rfl
  have hk8c1 := hk8.cell (i := 1) rfl
  have hk8c2 := hk8.cell (i := 2) rfl
  have hk8c3 := hk8.cell (i := 3) rfl
  exact bodyPost_ret (v := .tuple #[.agg #[.bool false, .slice none 0 0, .bool false, .slice none 0 0], .int .i64 3]) (by simp [results, Tryz.results65, go_sem, hk8c0, hk8c1, hk8c2, hk8c3]) rfl ⟨_, rfl, Fz.mk (Iz.zero _) (Iz.zero _), hupw⟩
set_option maxRecDepth 100000 in
set_option maxHeartbeats 4000000 in
theorem frac_y {x y z u : Int} (v0 v1 v2 v3 : Value) (w : World) (h0 : Iz w v0 (x)) (h1 : Iz w v1 (y)) (h2 : Iz w v2 (z)) (h3 : Iz w v3 (u)) (hb : okB (x * y) = true) (hb2 : okB (z * u) = true) (hq : z * u ≠ 0) :
    Calls Tryz.prog 65 #[v0, v1, v2, v3] w (PFE w (nm (fr (x * y) (z * u))) (dn (fr (x * y) (z * u))) 0) := by
  obtain ⟨s0, A0, n0, c0, rfl⟩ := h0.agg
  obtain ⟨s1, A1, n1, c1, rfl⟩ := h1.agg
  obtain ⟨s2, A2, n2, c2, rfl⟩ := h2.agg
  obtain ⟨s3, A3, n3, c3, rfl⟩ := h3.agg
  have hupw : Up w w := Up.refl w
  go_enter Tryz.func65, Tryz.ntmps65
  go_wp2_with fail
  obtain ⟨wa1, hwa1⟩ : ∃ x, x = (((((w.alloc (.cells #[.bool s0, .slice A0 n0 c0] 24)).alloc (.cells #[.bool s1, .slice A1 n1 c1] 24)).alloc (.cells #[.bool s2, .slice A2 n2 c2] 24)).alloc (.cells #[.bool s3, .slice A3 n3 c3] 24)).alloc (.cells #[.bool false, .slice none 0 0, .bool false, .slice none 0 0] 29)) := ⟨_, rfl⟩
  have hup : Up w wa1 := by rw [hwa1]; exact ((((((Up.refl w).alloc _).alloc _).alloc _).alloc _).alloc _)
  have hzwa1 : w.heap.size ≤ w.heap.size := hupw.size
  replace h0 := h0.up hup
  replace h1 := h1.up hup
  replace h2 := h2.up hup
  replace h3 := h3.up hup
  replace hupw := hupw.trans hup
  clear hup
  have hk4 : Bk wa1 (w.heap.size) 24 #[.bool s0, .slice A0 n0 c0] := by
    have := (((((Bk.new w 24 #[.bool s0, .slice A0 n0 c0]).alloc (.cells #[.bool s1, .slice A1 n1 c1] 24)).alloc (.cells #[.bool s2, .slice A2 n2 c2] 24)).alloc (.cells #[.bool s3, .slice A3 n3 c3] 24)).alloc (.cells #[.bool false, .slice none 0 0, .bool false, .slice none 0 0] 29))
    rw [hwa1]; simpa using this
  have hk5 : Bk wa1 (w.heap.size + 1) 24 #[.bool s1, .slice A1 n1 c1] := by
    have := ((((Bk.new (w.alloc (.cells #[.bool s0, .slice A0 n0 c0] 24)) 24 #[.bool s1, .slice A1 n1 c1]).alloc (.cells #[.bool s2, .slice A2 n2 c2] 24)).alloc (.cells #[.bool s3, .slice A3 n3 c3] 24)).alloc (.cells #[.bool false, .slice none 0 0, .bool false, .slice none 0 0] 29))
    rw [hwa1]; simpa using this
  have hk6 : Bk wa1 (w.heap.size + 1 + 1) 24 #[.bool s2, .slice A2 n2 c2] := by
    have := (((Bk.new ((w.alloc (.cells #[.bool s0, .slice A0 n0 c0] 24)).alloc (.cells #[.bool s1, .slice A1 n1 c1] 24)) 24 #[.bool s2, .slice A2 n2 c2]).alloc (.cells #[.bool s3, .slice A3 n3 c3] 24)).alloc (.cells #[.bool false, .slice none 0 0, .bool false, .slice none 0 0] 29))
    rw [hwa1]; simpa using this
  have hk7 : Bk wa1 (w.heap.size + 1 + 1 + 1) 24 #[.bool s3, .slice A3 n3 c3] := by
    have := ((Bk.new (((w.alloc (.cells #[.bool s0, .slice A0 n0 c0] 24)).alloc (.cells #[.bool s1, .slice A1 n1 c1] 24)).alloc (.cells #[.bool s2, .slice A2 n2 c2] 24)) 24 #[.bool s3, .slice A3 n3 c3]).alloc (.cells #[.bool false, .slice none 0 0, .bool false, .slice none 0 0] 29))
    rw [hwa1]; simpa using this
  have hk8 : Bk wa1 (w.heap.size + 1 + 1 + 1 + 1) 29 #[.bool false, .slice none 0 0, .bool false, .slice none 0 0] := by
    have := (Bk.new ((((w.alloc (.cells #[.bool s0, .slice A0 n0 c0] 24)).alloc (.cells #[.bool s1, .slice A1 n1 c1] 24)).alloc (.cells #[.bool s2, .slice A2 n2 c2] 24)).alloc (.cells #[.bool s3, .slice A3 n3 c3] 24)) 29 #[.bool false, .slice none 0 0, .bool false, .slice none 0 0])
    rw [hwa1]; simpa using this
  rw [← hwa1]
  clear hwa1
  refine (prodQ _ _ _ _ _ h0 h1 h2 h3 hb hb2).mono ?_
  rintro e w2 ⟨v_3, v_4, rfl, h_3, h_4, hup⟩
  replace hk8 := hk8.up hup
  replace hupw := hupw.trans hup
  clear hup
  obtain ⟨s_3, A_3, n_3, c_3, rfl⟩ := h_3.agg
  obtain ⟨s_4, A_4, n_4, c_4, rfl⟩ := h_4.agg
  go_wp2_with fail
  obtain ⟨wa5, hwa5⟩ : ∃ x, x = ((w2.alloc (.cells #[.bool s_3, .slice A_3 n_3 c_3] 24)).alloc (.cells #[.bool s_4, .slice A_4 n_4 c_4] 24)) := ⟨_, rfl⟩
  have hup : Up w2 wa5 := by rw [hwa5]; exact (((Up.refl w2).alloc _).alloc _)
  have howa5 : (w.heap.size + 1 + 1 + 1 + 1) < w2.heap.size := hk8.lt
  have hzwa5 : w.heap.size ≤ w2.heap.size := hupw.size
  replace hk8 := hk8.up hup
  replace h_3 := h_3.up hup
  replace h_4 := h_4.up hup
  replace hupw := hupw.trans hup
  clear hup
  have hk10 : Bk wa5 (w2.heap.size) 24 #[.bool s_3, .slice A_3 n_3 c_3] := by
    have := ((Bk.new w2 24 #[.bool s_3, .slice A_3 n_3 c_3]).alloc (.cells #[.bool s_4, .slice A_4 n_4 c_4] 24))
    rw [hwa5]; simpa using this
  have hk11 : Bk wa5 (w2.heap.size + 1) 24 #[.bool s_4, .slice A_4 n_4 c_4] := by
    have := (Bk.new (w2.alloc (.cells #[.bool s_3, .slice A_3 n_3 c_3] 24)) 24 #[.bool s_4, .slice A_4 n_4 c_4])
    rw [hwa5]; simpa using this
  rw [← hwa5]
  clear hwa5
  refine (lowQ h_3 h_4 hq).mono ?_
  rintro e w6 ⟨vf, rfl, hf, hup⟩
  replace hk8 := hk8.up hup
  replace hupw := hupw.trans hup
  clear hup
  obtain ⟨s_7, A_7, n_7, c_7, s_8, A_8, n_8, c_8, rfl, h_7, h_8⟩ := hf
  have hk8c0 := hk8.cell (i := 0) rfl
  have hk8c1 := hk8.cell (i := 1) rfl
  have hk8c2 := hk8.cell (i := 2) rfl
  have hk8c3 := hk8.cell (i := 3) rfl
  have hk8l := hk8.lt
  have hk8f0 := hk8.frozen 0
  have hk8f1 := hk8.frozen 1
  have hk8f2 := hk8.frozen 2
  have hk8f3 := hk8.frozen 3
  go_wp2_with fail
  clear hk8c0 hk8c1 hk8c2 hk8c3 hk8l hk8f0 hk8f1 hk8f2 hk8f3
  obtain ⟨ws9, hws9⟩ : ∃ x, x = (st4 w6 (w.heap.size + 1 + 1 + 1 + 1) (.bool s_7) (.slice A_7 n_7 c_7) (.bool s_8) (.slice A_8 n_8 c_8)) := ⟨_, rfl⟩
  have h_7' := h_7.st4 hk8 (noU4 _ _ _ _ _ _ _ _) (.bool s_7) (.slice A_7 n_7 c_7) (.bool s_8) (.slice A_8 n_8 c_8)
  have h_8' := h_8.st4 hk8 (noU4 _ _ _ _ _ _ _ _) (.bool s_7) (.slice A_7 n_7 c_7) (.bool s_8) (.slice A_8 n_8 c_8)
  rw [← hws9] at h_7'
  clear h_7
  have h_7 := h_7'
  clear h_7'
  rw [← hws9] at h_8'
  clear h_8
  have h_8 := h_8'
  clear h_8'
  replace hupw := hupw.st4 (g := (w.heap.size + 1 + 1 + 1 + 1)) (by omega) (.bool s_7) (.slice A_7 n_7 c_7) (.bool s_8) (.slice A_8 n_8 c_8)
  rw [← hws9] at hupw
  replace hk8 := hk8.four (.bool s_7) (.slice A_7 n_7 c_7) (.bool s_8) (.slice A_8 n_8 c_8)
  rw [← hws9] at hk8
  have hszws9 : ws9.heap.size = w6.heap.size := by rw [hws9]; simp [st4]
  unfold st4 at hws9
  rw [← hws9]
  clear hws9
  clear hszws9
  have hk8c0 := hk8.cell (i := 0) rfl
  have hk8c1 := hk8.cell (i := 1) rfl
  have hk8c2 := hk8.cell (i := 2) rfl
  have hk8c3 := hk8.cell (i := 3) rfl
  exact bodyPost_ret (v := .tuple #[.agg #[.bool s_7, .slice A_7 n_7 c_7, .bool s_8, .slice A_8 n_8 c_8], .int .i64 0]) (by simp [results, Tryz.results65, go_sem, hk8c0, hk8c1, hk8c2, hk8c3]) rfl ⟨_, rfl, Fz.mk h_7 h_8, hupw⟩
theorem fracQ {w : World} {v v' a a' : Value} {x y z u : Int} (h : Iz w v x) (h' : Iz w v' y) (k : Iz w a z) (k' : Iz w a' u) (hq : z * u ≠ 0) : Calls Tryz.prog 65 #[v, v', a, a'] w (PR w (quoR (x * y) (z * u))) := by
  unfold quoR
  cases hb : (okB (x * y) && okB (z * u)) with
  | false => exact frac_n v v' a a' w h h' k k' hb
  | true =>
    simp only [Bool.and_eq_true] at hb
    exact frac_y v v' a a' w h h' k k' hb.1 hb.2 hq
set_option maxRecDepth 100000 in
set_option maxHeartbeats 4000000 in
theorem product_q {a b : Rat} (v0 v1 : Value) (w : World) (f0 : Fz w v0 (nm a) (dn a)) (f1 : Fz w v1 (nm b) (dn b)) :
    Calls Tryz.prog 64 #[v0, v1] w (PR w (mulR a b)) := by
  obtain ⟨s0, A0, n0, c0, t0, B0, m0, d0, rfl, h0, k0⟩ := f0
  obtain ⟨s1, A1, n1, c1, t1, B1, m1, d1, rfl, h1, k1⟩ := f1
  have hupw : Up w w := Up.refl w
  go_enter Tryz.func64, Tryz.ntmps64
  go_wp2_with fail
  obtain ⟨wa1, hwa1⟩ : ∃ x, x = (((w.alloc (.cells #[.bool s0, .slice A0 n0 c0, .bool t0, .slice B0 m0 d0] 29)).alloc (.cells #[.bool s1, .slice A1 n1 c1, .bool t1, .slice B1 m1 d1] 29)).alloc (.cells #[.bool false, .slice none 0 0, .bool false, .slice none 0 0] 29)) := ⟨_, rfl⟩
  have hup : Up w wa1 := by rw [hwa1]; exact ((((Up.refl w).alloc _).alloc _).alloc _)
  have hzwa1 : w.heap.size ≤ w.heap.size := hupw.size
  replace h0 := h0.up hup
  replace k0 := k0.up hup
  replace h1 := h1.up hup
  replace k1 := k1.up hup
  replace hupw := hupw.trans hup
  clear hup
  have hk2 : Bk wa1 (w.heap.size) 29 #[.bool s0, .slice A0 n0 c0, .bool t0, .slice B0 m0 d0] := by
    have := (((Bk.new w 29 #[.bool s0, .slice A0 n0 c0, .bool t0, .slice B0 m0 d0]).alloc (.cells #[.bool s1, .slice A1 n1 c1, .bool t1, .slice B1 m1 d1] 29)).alloc (.cells #[.bool false, .slice none 0 0, .bool false, .slice none 0 0] 29))
    rw [hwa1]; simpa using this
  have hk3 : Bk wa1 (w.heap.size + 1) 29 #[.bool s1, .slice A1 n1 c1, .bool t1, .slice B1 m1 d1] := by
    have := ((Bk.new (w.alloc (.cells #[.bool s0, .slice A0 n0 c0, .bool t0, .slice B0 m0 d0] 29)) 29 #[.bool s1, .slice A1 n1 c1, .bool t1, .slice B1 m1 d1]).alloc (.cells #[.bool false, .slice none 0 0, .bool false, .slice none 0 0] 29))
    rw [hwa1]; simpa using this
  have hk4 : Bk wa1 (w.heap.size + 1 + 1) 29 #[.bool false, .slice none 0 0, .bool false, .slice none 0 0] := by
    have := (Bk.new ((w.alloc (.cells #[.bool s0, .slice A0 n0 c0, .bool t0, .slice B0 m0 d0] 29)).alloc (.cells #[.bool s1, .slice A1 n1 c1, .bool t1, .slice B1 m1 d1] 29)) 29 #[.bool false, .slice none 0 0, .bool false, .slice none 0 0])
    rw [hwa1]; simpa using this
  rw [← hwa1]
  clear hwa1
  refine (fracQ h0 h1 k0 k1 (dn_mul_ne a b)).mono ?_
  rintro e w2 ⟨vf, rfl, hf, hup⟩
  replace hk4 := hk4.up hup
  replace hupw := hupw.trans hup
  clear hup
  obtain ⟨s_3, A_3, n_3, c_3, s_4, A_4, n_4, c_4, rfl, h_3, h_4⟩ := hf
  have hk4c0 := hk4.cell (i := 0) rfl
  have hk4c1 := hk4.cell (i := 1) rfl
  have hk4c2 := hk4.cell (i := 2) rfl
  have hk4c3 := hk4.cell (i := 3) rfl
  have hk4l := hk4.lt
  have hk4f0 := hk4.frozen 0
  have hk4f1 := hk4.frozen 1
  have hk4f2 := hk4.frozen 2
  have hk4f3 := hk4.frozen 3
  go_wp2_with fail
  clear hk4c0 hk4c1 hk4c2 hk4c3 hk4l hk4f0 hk4f1 hk4f2 hk4f3
  obtain ⟨ws5, hws5⟩ : ∃ x, x = (st4 w2 (w.heap.size + 1 + 1) (.bool s_3) (.slice A_3 n_3 c_3) (.bool s_4) (.slice A_4 n_4 c_4)) := ⟨_, rfl⟩
  have h_3' := h_3.st4 hk4 (noU4 _ _ _ _ _ _ _ _) (.bool s_3) (.slice A_3 n_3 c_3) (.bool s_4) (.slice A_4 n_4 c_4)
  have h_4' := h_4.st4 hk4 (noU4 _ _ _ _ _ _ _ _) (.bool s_3) (.slice A_3 n_3 c_3) (.bool s_4) (.slice A_4 n_4 c_4)
  rw [← hws5] at h_3'
  clear h_3
  have h_3 := h_3'
  clear h_3'
  rw [← hws5] at h_4'
  clear h_4
  have h_4 := h_4'
  clear h_4'
  replace hupw := hupw.st4 (g := (w.heap.size + 1 + 1)) (by omega) (.bool s_3) (.slice A_3 n_3 c_3) (.bool s_4) (.slice A_4 n_4 c_4)
  rw [← hws5] at hupw
  replace hk4 := hk4.four (.bool s_3) (.slice A_3 n_3 c_3) (.bool s_4) (.slice A_4 n_4 c_4)
  rw [← hws5] at hk4
  have hszws5 : ws5.heap.size = w2.heap.size := by rw [hws5]; simp [st4]
  unfold st4 at hws5
  rw [← hws5]
  clear hws5
  clear hszws5
  have hk4c0 := hk4.cell (i := 0) rfl
  have hk4c1 := hk4.cell (i := 1) rfl
  have hk4c2 := hk4.cell (i := 2) rfl
  have hk4c3 := hk4.cell (i := 3) rfl
  exact bodyPost_ret (v := .tuple #[.agg #[.bool s_3, .slice A_3 n_3 c_3, .bool s_4, .slice A_4 n_4 c_4], .int .i64 (quoR (nm a * nm b) (dn a * dn b)).e]) (by simp [results, Tryz.results64, go_sem, hk4c0, hk4c1, hk4c2, hk4c3]) rfl ⟨_, rfl, Fz.mk h_3 h_4, hupw⟩

end Go.Proofs.YtldifgfpecicnaaGreatDoor
