/- Fractions: the arithmetic of the reference. -/
import Derived.Test.YtldifgfpecicnaaGreatDoorR6
namespace Go.Proofs.YtldifgfpecicnaaGreatDoor
open Go.RowKit

theorem rmulE {w : World} {v v' : Value} {x y : Int} (h : Iz w v x) (h' : Iz w v' y) : Calls Tryz.prog 73 #[v, v'] w (PIE w (bnd (x * y)) (bndE (x * y))) := by
  refine (rmulI_any 0 0 v v' x y w h.1 h'.1 h.2 h'.2).mono ?_
  rintro e w1 ⟨u, rfl, hu, hup⟩
  exact ⟨u, rfl, Iz.of hu (bnd_lt _), hup⟩
set_option maxRecDepth 100000 in
set_option maxHeartbeats 4000000 in
theorem cross_1 {a b : Rat} (v0 v1 : Value) (w : World) (f0 : Fz w v0 (nm a) (dn a)) (f1 : Fz w v1 (nm b) (dn b)) (hb : okB (nm a * dn b) = false) :
    Calls Tryz.prog 74 #[v0, v1] w (PIIIE w 0 0 (bnd (dn a * dn b)) 3) := by
  obtain ⟨s0, A0, n0, c0, t0, B0, m0, d0, rfl, h0, k0⟩ := f0
  obtain ⟨s1, A1, n1, c1, t1, B1, m1, d1, rfl, h1, k1⟩ := f1
  have hupw : Up w w := Up.refl w
  go_enter Tryz.func74, Tryz.ntmps74
  go_wp2_with fail
  obtain ⟨wa1, hwa1⟩ : ∃ x, x = (((((w.alloc (.cells #[.bool s0, .slice A0 n0 c0, .bool t0, .slice B0 m0 d0] 29)).alloc (.cells #[.bool s1, .slice A1 n1 c1, .bool t1, .slice B1 m1 d1] 29)).alloc (.cells #[.bool false, .slice none 0 0] 24)).alloc (.cells #[.bool false, .slice none 0 0] 24)).alloc (.cells #[.bool false, .slice none 0 0] 24)) := ⟨_, rfl⟩
  have hup : Up w wa1 := by rw [hwa1]; exact ((((((Up.refl w).alloc _).alloc _).alloc _).alloc _).alloc _)
  have hzwa1 : w.heap.size ≤ w.heap.size := hupw.size
  replace h0 := h0.up hup
  replace k0 := k0.up hup
  replace h1 := h1.up hup
  replace k1 := k1.up hup
  replace hupw := hupw.trans hup
  clear hup
  have hk2 : Bk wa1 (w.heap.size) 29 #[.bool s0, .slice A0 n0 c0, .bool t0, .slice B0 m0 d0] := by
    have := (((((Bk.new w 29 #[.bool s0, .slice A0 n0 c0, .bool t0, .slice B0 m0 d0]).alloc (.cells #[.bool s1, .slice A1 n1 c1, .bool t1, .slice B1 m1 d1] 29)).alloc (.cells #[.bool false, .slice none 0 0] 24)).alloc (.cells #[.bool false, .slice none 0 0] 24)).alloc (.cells #[.bool false, .slice none 0 0] 24))
    rw [hwa1]; simpa using this
  have hk3 : Bk wa1 (w.heap.size + 1) 29 #[.bool s1, .slice A1 n1 c1, .bool t1, .slice B1 m1 d1] := by
    have := ((((Bk.new (w.alloc (.cells #[.bool s0, .slice A0 n0 c0, .bool t0, .slice B0 m0 d0] 29)) 29 #[.bool s1, .slice A1 n1 c1, .bool t1, .slice B1 m1 d1]).alloc (.cells #[.bool false, .slice none 0 0] 24)).alloc (.cells #[.bool false, .slice none 0 0] 24)).alloc (.cells #[.bool false, .slice none 0 0] 24))
    rw [hwa1]; simpa using this
  have hk4 : Bk wa1 (w.heap.size + 1 + 1) 24 #[.bool false, .slice none 0 0] := by
    have := (((Bk.new ((w.alloc (.cells #[.bool s0, .slice A0 n0 c0, .bool t0, .slice B0 m0 d0] 29)).alloc (.cells #[.bool s1, .slice A1 n1 c1, .bool t1, .slice B1 m1 d1] 29)) 24 #[.bool false, .slice none 0 0]).alloc (.cells #[.bool false, .slice none 0 0] 24)).alloc (.cells #[.bool false, .slice none 0 0] 24))
    rw [hwa1]; simpa using this
  have hk5 : Bk wa1 (w.heap.size + 1 + 1 + 1) 24 #[.bool false, .slice none 0 0] := by
    have := ((Bk.new (((w.alloc (.cells #[.bool s0, .slice A0 n0 c0, .bool t0, .slice B0 m0 d0] 29)).alloc (.cells #[.bool s1, .slice A1 n1 c1, .bool t1, .slice B1 m1 d1] 29)).alloc (.cells #[.bool false, .slice none 0 0] 24)) 24 #[.bool false, .slice none 0 0]).alloc (.cells #[.bool false, .slice none 0 0] 24))
    rw [hwa1]; simpa using this
  have hk6 : Bk wa1 (w.heap.size + 1 + 1 + 1 + 1) 24 #[.bool false, .slice none 0 0] := by
    have := (Bk.new ((((w.alloc (.cells #[.bool s0, .slice A0 n0 c0, .bool t0, .slice B0 m0 d0] 29)).alloc (.cells #[.bool s1, .slice A1 n1 c1, .bool t1, .slice B1 m1 d1] 29)).alloc (.cells #[.bool false, .slice none 0 0] 24)).alloc (.cells #[.bool false, .slice none 0 0] 24)) 24 #[.bool false, .slice none 0 0])
    rw [hwa1]; simpa using this
  rw [← hwa1]
  clear hwa1
  refine (rvalidRQ (Fz.mk h0 k0)).mono ?_
  rintro e w2 ⟨rfl, hup⟩
  replace hk2 := hk2.up hup
  replace hk3 := hk3.up hup
  replace hk4 := hk4.up hup
  replace hk5 := hk5.up hup
  replace hk6 := hk6.up hup
  replace h0 := h0.up hup
  replace k0 := k0.up hup
  replace h1 := h1.up hup
  replace k1 := k1.up hup
  replace hupw := hupw.trans hup
  clear hup
  have hk3c0 := hk3.cell (i := 0) rfl
  have hk3c1 := hk3.cell (i := 1) rfl
  have hk3c2 := hk3.cell (i := 2) rfl
  have hk3c3 := hk3.cell (i := 3) rfl
  have hk3l := hk3.lt
  go_wp2_with fail
  clear hk3c0 hk3c1 hk3c2 hk3c3 hk3l
  refine (rvalidRQ (Fz.mk h1 k1)).mono ?_
  rintro e w3 ⟨rfl, hup⟩
  replace hk2 := hk2.up hup
  replace hk3 := hk3.up hup
  replace hk4 := hk4.up hup
  replace hk5 := hk5.up hup
  replace hk6 := hk6.up hup
  replace h0 := h0.up hup
  replace k0 := k0.up hup
  replace h1 := h1.up hup
  replace k1 := k1.up hup
  replace hupw := hupw.trans hup
  clear hup
  have hk2c0 := hk2.cell (i := 0) rfl
  have hk2c1 := hk2.cell (i := 1) rfl
  have hk2c2 := hk2.cell (i := 2) rfl
  have hk2c3 := hk2.cell (i := 3) rfl
  have hk2l := hk2.lt
  have hk3c0 := hk3.cell (i := 0) rfl
  have hk3c1 := hk3.cell (i := 1) rfl
  have hk3c2 := hk3.cell (i := 2) rfl
  have hk3c3 := hk3.cell (i := 3) rfl
  have hk3l := hk3.lt
  go_wp2_with fail
  clear hk2c0 hk2c1 hk2c2 hk2c3 hk2l hk3c0 hk3c1 hk3c2 hk3c3 hk3l
  refine (rmulN h0 k1 hb).mono ?_
  rintro e w4 ⟨v_5, rfl, h_5, hup⟩
  replace hk2 := hk2.up hup
  replace hk3 := hk3.up hup
  replace hk4 := hk4.up hup
  replace hk5 := hk5.up hup
  replace hk6 := hk6.up hup
  replace k0 := k0.up hup
  replace h1 := h1.up hup
  replace k1 := k1.up hup
  replace hupw := hupw.trans hup
  clear hup
  obtain ⟨s_5, A_5, n_5, c_5, rfl⟩ := h_5.agg
  have hk3c0 := hk3.cell (i := 0) rfl
  have hk3c1 := hk3.cell (i := 1) rfl
  have hk3c2 := hk3.cell (i := 2) rfl
  have hk3c3 := hk3.cell (i := 3) rfl
  have hk3l := hk3.lt
  have hk2c0 := hk2.cell (i := 0) rfl
  have hk2c1 := hk2.cell (i := 1) rfl
  have hk2c2 := hk2.cell (i := 2) rfl
  have hk2c3 := hk2.cell (i := 3) rfl
  have hk2l := hk2.lt
  go_wp2_with fail
  clear hk3c0 hk3c1 hk3c2 hk3c3 hk3l hk2c0 hk2c1 hk2c2 hk2c3 hk2l
  obtain ⟨wa6, hwa6⟩ : ∃ x, x = (w4.alloc (.cells #[.bool s_5, .slice A_5 n_5 c_5] 24)) := ⟨_, rfl⟩
  have hup : Up w4 wa6 := by rw [hwa6]; exact ((Up.refl w4).alloc _)
  have howa6 : (w.heap.size + 1 + 1 + 1 + 1) < w4.heap.size := hk6.lt
  have hzwa6 : w.heap.size ≤ w4.heap.size := hupw.size
  replace hk2 := hk2.up hup
  replace hk3 := hk3.up hup
  replace hk4 := hk4.up hup
  replace hk5 := hk5.up hup
  replace hk6 := hk6.up hup
  replace k0 := k0.up hup
  replace h1 := h1.up hup
  replace k1 := k1.up hup
  replace hupw := hupw.trans hup
  clear hup
  have hk8 : Bk wa6 (w4.heap.size) 24 #[.bool s_5, .slice A_5 n_5 c_5] := by
    have := (Bk.new w4 24 #[.bool s_5, .slice A_5 n_5 c_5])
    rw [hwa6]; simpa using this
  rw [← hwa6]
  clear hwa6
  refine (rmulE h1 k0).mono ?_
  rintro e w7 ⟨v_8, rfl, h_8, hup⟩
  replace hk2 := hk2.up hup
  replace hk3 := hk3.up hup
  replace hk4 := hk4.up hup
  replace hk5 := hk5.up hup
  replace hk6 := hk6.up hup
  replace hk8 := hk8.up hup
  replace k0 := k0.up hup
  replace k1 := k1.up hup
  replace hupw := hupw.trans hup
  clear hup
  obtain ⟨s_8, A_8, n_8, c_8, rfl⟩ := h_8.agg
  have hk2c0 := hk2.cell (i := 0) rfl
  have hk2c1 := hk2.cell (i := 1) rfl
  have hk2c2 := hk2.cell (i := 2) rfl
  have hk2c3 := hk2.cell (i := 3) rfl
  have hk2l := hk2.lt
  have hk3c0 := hk3.cell (i := 0) rfl
  have hk3c1 := hk3.cell (i := 1) rfl
  have hk3c2 := hk3.cell (i := 2) rfl
  have hk3c3 := hk3.cell (i := 3) rfl
  have hk3l := hk3.lt
  go_wp2_with fail
  clear hk2c0 hk2c1 hk2c2 hk2c3 hk2l hk3c0 hk3c1 hk3c2 hk3c3 hk3l
  obtain ⟨wa9, hwa9⟩ : ∃ x, x = (w7.alloc (.cells #[.bool s_8, .slice A_8 n_8 c_8] 24)) := ⟨_, rfl⟩
  have hup : Up w7 wa9 := by rw [hwa9]; exact ((Up.refl w7).alloc _)
  have howa9 : w4.heap.size < w7.heap.size := hk8.lt
  have hzwa9 : w.heap.size ≤ w7.heap.size := hupw.size
  replace hk4 := hk4.up hup
  replace hk5 := hk5.up hup
  replace hk6 := hk6.up hup
  replace k0 := k0.up hup
  replace k1 := k1.up hup
  replace hupw := hupw.trans hup
  clear hup
  have hk10 : Bk wa9 (w7.heap.size) 24 #[.bool s_8, .slice A_8 n_8 c_8] := by
    have := (Bk.new w7 24 #[.bool s_8, .slice A_8 n_8 c_8])
    rw [hwa9]; simpa using this
  rw [← hwa9]
  clear hwa9
  refine (rmulE k0 k1).mono ?_
  rintro e w10 ⟨v_11, rfl, h_11, hup⟩
  replace hk4 := hk4.up hup
  replace hk5 := hk5.up hup
  replace hk6 := hk6.up hup
  replace hk10 := hk10.up hup
  replace hupw := hupw.trans hup
  clear hup
  obtain ⟨s_11, A_11, n_11, c_11, rfl⟩ := h_11.agg
  go_wp2_with fail
  obtain ⟨wa12, hwa12⟩ : ∃ x, x = (w10.alloc (.cells #[.bool s_11, .slice A_11 n_11 c_11] 24)) := ⟨_, rfl⟩
  have hup : Up w10 wa12 := by rw [hwa12]; exact ((Up.refl w10).alloc _)
  have howa12 : w7.heap.size < w10.heap.size := hk10.lt
  have hzwa12 : w.heap.size ≤ w10.heap.size := hupw.size
  replace hk4 := hk4.up hup
  replace hk5 := hk5.up hup
  replace hk6 := hk6.up hup
  replace h_11 := h_11.up hup
  replace hupw := hupw.trans hup
  clear hup
  have hk12 : Bk wa12 (w10.heap.size) 24 #[.bool s_11, .slice A_11 n_11 c_11] := by
    have := (Bk.new w10 24 #[.bool s_11, .slice A_11 n_11 c_11])
    rw [hwa12]; simpa using this
  rw [← hwa12]
  clear hwa12
  have hk12c0 := hk12.cell (i := 0) rfl
  have hk12c1 := hk12.cell (i := 1) rfl
  have hk12l := hk12.lt
  have hk4c0 := hk4.cell (i := 0) rfl
  have hk4c1 := hk4.cell (i := 1) rfl
  have hk4l := hk4.lt
  have hk5c0 := hk5.cell (i := 0) rfl
  have hk5c1 := hk5.cell (i := 1) rfl
  have hk5l := hk5.lt
  have hk6c0 := hk6.cell (i := 0) rfl
  have hk6c1 := hk6.cell (i := 1) rfl
  have hk6l := hk6.lt
  have hk4f0 := hk4.frozen 0
  have hk4f1 := hk4.frozen 1
  have hk5f0 := hk5.frozen 0
  have hk5f1 := hk5.frozen 1
  have hk6f0 := hk6.frozen 0
  have hk6f1 := hk6.frozen 1
  go_region
  clear hk12c0 hk12c1 hk12l hk4c0 hk4c1 hk4l hk5c0 hk5c1 hk5l hk6c0 hk6c1 hk6l hk4f0 hk4f1 hk5f0 hk5f1 hk6f0 hk6f1
  obtain ⟨ws13, hws13⟩ : ∃ x, x = ((wa12.setCell ⟨(w.heap.size + 1 + 1), 0, none⟩ (.bool false)).setCell ⟨(w.heap.size + 1 + 1), 1, none⟩ (.slice none 0 0)) := ⟨_, rfl⟩
  have h_11' := h_11.st2 hk4 (noU2 _ _ _ _) (.bool false) (.slice none 0 0)
  rw [← hws13] at h_11'
  clear h_11
  have h_11 := h_11'
  clear h_11'
  replace hk5 := hk5.far2 (g' := (w.heap.size + 1 + 1)) (by omega) (.bool false) (.slice none 0 0)
  rw [← hws13] at hk5
  replace hk6 := hk6.far2 (g' := (w.heap.size + 1 + 1)) (by omega) (.bool false) (.slice none 0 0)
  rw [← hws13] at hk6
  replace hupw := hupw.two (g := (w.heap.size + 1 + 1)) (by omega) (.bool false) (.slice none 0 0)
  rw [← hws13] at hupw
  replace hk4 := hk4.two_bk (.bool false) (.slice none 0 0)
  rw [← hws13] at hk4
  have hszws13 : ws13.heap.size = wa12.heap.size := by rw [hws13]; simp
  rw [← hws13]
  clear hws13
  obtain ⟨ws14, hws14⟩ : ∃ x, x = ((ws13.setCell ⟨(w.heap.size + 1 + 1 + 1), 0, none⟩ (.bool false)).setCell ⟨(w.heap.size + 1 + 1 + 1), 1, none⟩ (.slice none 0 0)) := ⟨_, rfl⟩
  have h_11' := h_11.st2 hk5 (noU2 _ _ _ _) (.bool false) (.slice none 0 0)
  rw [← hws14] at h_11'
  clear h_11
  have h_11 := h_11'
  clear h_11'
  replace hk4 := hk4.far2 (g' := (w.heap.size + 1 + 1 + 1)) (by omega) (.bool false) (.slice none 0 0)
  rw [← hws14] at hk4
  replace hk6 := hk6.far2 (g' := (w.heap.size + 1 + 1 + 1)) (by omega) (.bool false) (.slice none 0 0)
  rw [← hws14] at hk6
  replace hupw := hupw.two (g := (w.heap.size + 1 + 1 + 1)) (by omega) (.bool false) (.slice none 0 0)
  rw [← hws14] at hupw
  replace hk5 := hk5.two_bk (.bool false) (.slice none 0 0)
  rw [← hws14] at hk5
  have hszws14 : ws14.heap.size = wa12.heap.size := by rw [hws14]; simp [hszws13]
  rw [← hws14]
  clear hws14
  obtain ⟨ws15, hws15⟩ : ∃ x, x = ((ws14.setCell ⟨(w.heap.size + 1 + 1 + 1 + 1), 0, none⟩ (.bool s_11)).setCell ⟨(w.heap.size + 1 + 1 + 1 + 1), 1, none⟩ (.slice A_11 n_11 c_11)) := ⟨_, rfl⟩
  have h_11' := h_11.st2 hk6 (noU2 _ _ _ _) (.bool s_11) (.slice A_11 n_11 c_11)
  rw [← hws15] at h_11'
  clear h_11
  have h_11 := h_11'
  clear h_11'
  replace hk4 := hk4.far2 (g' := (w.heap.size + 1 + 1 + 1 + 1)) (by omega) (.bool s_11) (.slice A_11 n_11 c_11)
  rw [← hws15] at hk4
  replace hk5 := hk5.far2 (g' := (w.heap.size + 1 + 1 + 1 + 1)) (by omega) (.bool s_11) (.slice A_11 n_11 c_11)
  rw [← hws15] at hk5
  replace hupw := hupw.two (g := (w.heap.size + 1 + 1 + 1 + 1)) (by omega) (.bool s_11) (.slice A_11 n_11 c_11)
  rw [← hws15] at hupw
  replace hk6 := hk6.two_bk (.bool s_11) (.slice A_11 n_11 c_11)
  rw [← hws15] at hk6
  have hszws15 : ws15.heap.size = wa12.heap.size := by rw [hws15]; simp [hszws14]
  rw [← hws15]
  clear hws15
  clear hszws13 hszws14 hszws15
  obtain ⟨wr16, hwr16⟩ : ∃ x, x = ws15.drew := ⟨_, rfl⟩
  have hup : Up ws15 wr16 := by rw [hwr16]; exact (Up.refl ws15).drew
  replace hk4 := hk4.up hup
  replace hk5 := hk5.up hup
  replace hk6 := hk6.up hup
  replace h_11 := h_11.up hup
  replace hupw := hupw.trans hup
  clear hup
  rw [← hwr16]
  clear hwr16
  go_wp2_with fail
  have hk4c0 := hk4.cell (i := 0) rfl
  have hk4c1 := hk4.cell (i := 1) rfl
  have hk5c0 := hk5.cell (i := 0) rfl
  have hk5c1 := hk5.cell (i := 1) rfl
  have hk6c0 := hk6.cell (i := 0) rfl
  have hk6c1 := hk6.cell (i := 1) rfl
  exact bodyPost_ret (v := .tuple #[.agg #[.bool false, .slice none 0 0], .agg #[.bool false, .slice none 0 0], .agg #[.bool s_11, .slice A_11 n_11 c_11], .int .i64 3]) (by simp [results, Tryz.results74, go_sem, hk4c0, hk4c1, hk5c0, hk5c1, hk6c0, hk6c1]) rfl ⟨_, _, _, rfl, (Iz.zero _), (Iz.zero _), h_11, hupw⟩
set_option maxRecDepth 100000 in
set_option maxHeartbeats 4000000 in
theorem cross_2 {a b : Rat} (v0 v1 : Value) (w : World) (f0 : Fz w v0 (nm a) (dn a)) (f1 : Fz w v1 (nm b) (dn b)) (hb : okB (nm a * dn b) = true) (hb2 : okB (nm b * dn a) = false) :
    Calls Tryz.prog 74 #[v0, v1] w (PIIIE w 0 0 (bnd (dn a * dn b)) 3) := by
  obtain ⟨s0, A0, n0, c0, t0, B0, m0, d0, rfl, h0, k0⟩ := f0
  obtain ⟨s1, A1, n1, c1, t1, B1, m1, d1, rfl, h1, k1⟩ := f1
  have hupw : Up w w := Up.refl w
  go_enter Tryz.func74, Tryz.ntmps74
  go_wp2_with fail
  obtain ⟨wa1, hwa1⟩ : ∃ x, x = (((((w.alloc (.cells #[.bool s0, .slice A0 n0 c0, .bool t0, .slice B0 m0 d0] 29)).alloc (.cells #[.bool s1, .slice A1 n1 c1, .bool t1, .slice B1 m1 d1] 29)).alloc (.cells #[.bool false, .slice none 0 0] 24)).alloc (.cells #[.bool false, .slice none 0 0] 24)).alloc (.cells #[.bool false, .slice none 0 0] 24)) := ⟨_, rfl⟩
  have hup : Up w wa1 := by rw [hwa1]; exact ((((((Up.refl w).alloc _).alloc _).alloc _).alloc _).alloc _)
  have hzwa1 : w.heap.size ≤ w.heap.size := hupw.size
  replace h0 := h0.up hup
  replace k0 := k0.up hup
  replace h1 := h1.up hup
  replace k1 := k1.up hup
  replace hupw := hupw.trans hup
  clear hup
  have hk2 : Bk wa1 (w.heap.size) 29 #[.bool s0, .slice A0 n0 c0, .bool t0, .slice B0 m0 d0] := by
    have := (((((Bk.new w 29 #[.bool s0, .slice A0 n0 c0, .bool t0, .slice B0 m0 d0]).alloc (.cells #[.bool s1, .slice A1 n1 c1, .bool t1, .slice B1 m1 d1] 29)).alloc (.cells #[.bool false, .slice none 0 0] 24)).alloc (.cells #[.bool false, .slice none 0 0] 24)).alloc (.cells #[.bool false, .slice none 0 0] 24))
    rw [hwa1]; simpa using this
  have hk3 : Bk wa1 (w.heap.size + 1) 29 #[.bool s1, .slice A1 n1 c1, .bool t1, .slice B1 m1 d1] := by
    have := ((((Bk.new (w.alloc (.cells #[.bool s0, .slice A0 n0 c0, .bool t0, .slice B0 m0 d0] 29)) 29 #[.bool s1, .slice A1 n1 c1, .bool t1, .slice B1 m1 d1]).alloc (.cells #[.bool false, .slice none 0 0] 24)).alloc (.cells #[.bool false, .slice none 0 0] 24)).alloc (.cells #[.bool false, .slice none 0 0] 24))
    rw [hwa1]; simpa using this
  have hk4 : Bk wa1 (w.heap.size + 1 + 1) 24 #[.bool false, .slice none 0 0] := by
    have := (((Bk.new ((w.alloc (.cells #[.bool s0, .slice A0 n0 c0, .bool t0, .slice B0 m0 d0] 29)).alloc (.cells #[.bool s1, .slice A1 n1 c1, .bool t1, .slice B1 m1 d1] 29)) 24 #[.bool false, .slice none 0 0]).alloc (.cells #[.bool false, .slice none 0 0] 24)).alloc (.cells #[.bool false, .slice none 0 0] 24))
    rw [hwa1]; simpa using this
  have hk5 : Bk wa1 (w.heap.size + 1 + 1 + 1) 24 #[.bool false, .slice none 0 0] := by
    have := ((Bk.new (((w.alloc (.cells #[.bool s0, .slice A0 n0 c0, .bool t0, .slice B0 m0 d0] 29)).alloc (.cells #[.bool s1, .slice A1 n1 c1, .bool t1, .slice B1 m1 d1] 29)).alloc (.cells #[.bool false, .slice none 0 0] 24)) 24 #[.bool false, .slice none 0 0]).alloc (.cells #[.bool false, .slice none 0 0] 24))
    rw [hwa1]; simpa using this
  have hk6 : Bk wa1 (w.heap.size + 1 + 1 + 1 + 1) 24 #[.bool false, .slice none 0 0] := by
    have := (Bk.new ((((w.alloc (.cells #[.bool s0, .slice A0 n0 c0, .bool t0, .slice B0 m0 d0] 29)).alloc (.cells #[.bool s1, .slice A1 n1 c1, .bool t1, .slice B1 m1 d1] 29)).alloc (.cells #[.bool false, .slice none 0 0] 24)).alloc (.cells #[.bool false, .slice none 0 0] 24)) 24 #[.bool false, .slice none 0 0])
    rw [hwa1]; simpa using this
  rw [← hwa1]
  clear hwa1
  refine (rvalidRQ (Fz.mk h0 k0)).mono ?_
  rintro e w2 ⟨rfl, hup⟩
  replace hk2 := hk2.up hup
  replace hk3 := hk3.up hup
  replace hk4 := hk4.up hup
  replace hk5 := hk5.up hup
  replace hk6 := hk6.up hup
  replace h0 := h0.up hup
  replace k0 := k0.up hup
  replace h1 := h1.up hup
  replace k1 := k1.up hup
  replace hupw := hupw.trans hup
  clear hup
  have hk3c0 := hk3.cell (i := 0) rfl
  have hk3c1 := hk3.cell (i := 1) rfl
  have hk3c2 := hk3.cell (i := 2) rfl
  have hk3c3 := hk3.cell (i := 3) rfl
  have hk3l := hk3.lt
  go_wp2_with fail
  clear hk3c0 hk3c1 hk3c2 hk3c3 hk3l
  refine (rvalidRQ (Fz.mk h1 k1)).mono ?_
  rintro e w3 ⟨rfl, hup⟩
  replace hk2 := hk2.up hup
  replace hk3 := hk3.up hup
  replace hk4 := hk4.up hup
  replace hk5 := hk5.up hup
  replace hk6 := hk6.up hup
  replace h0 := h0.up hup
  replace k0 := k0.up hup
  replace h1 := h1.up hup
  replace k1 := k1.up hup
  replace hupw := hupw.trans hup
  clear hup
  have hk2c0 := hk2.cell (i := 0) rfl
  have hk2c1 := hk2.cell (i := 1) rfl
  have hk2c2 := hk2.cell (i := 2) rfl
  have hk2c3 := hk2.cell (i := 3) rfl
  have hk2l := hk2.lt
  have hk3c0 := hk3.cell (i := 0) rfl
  have hk3c1 := hk3.cell (i := 1) rfl
  have hk3c2 := hk3.cell (i := 2) rfl
  have hk3c3 := hk3.cell (i := 3) rfl
  have hk3l := hk3.lt
  go_wp2_with fail
  clear hk2c0 hk2c1 hk2c2 hk2c3 hk2l hk3c0 hk3c1 hk3c2 hk3c3 hk3l
  refine (rmulQ h0 k1 hb).mono ?_
  rintro e w4 ⟨v_5, rfl, h_5, hup⟩
  replace hk2 := hk2.up hup
  replace hk3 := hk3.up hup
  replace hk4 := hk4.up hup
  replace hk5 := hk5.up hup
  replace hk6 := hk6.up hup
  replace k0 := k0.up hup
  replace h1 := h1.up hup
  replace k1 := k1.up hup
  replace hupw := hupw.trans hup
  clear hup
  obtain ⟨s_5, A_5, n_5, c_5, rfl⟩ := h_5.agg
  have hk3c0 := hk3.cell (i := 0) rfl
  have hk3c1 := hk3.cell (i := 1) rfl
  have hk3c2 := hk3.cell (i := 2) rfl
  have hk3c3 := hk3.cell (i := 3) rfl
  have hk3l := hk3.lt
  have hk2c0 := hk2.cell (i := 0) rfl
  have hk2c1 := hk2.cell (i := 1) rfl
  have hk2c2 := hk2.cell (i := 2) rfl
  have hk2c3 := hk2.cell (i := 3) rfl
  have hk2l := hk2.lt
  go_wp2_with fail
  clear hk3c0 hk3c1 hk3c2 hk3c3 hk3l hk2c0 hk2c1 hk2c2 hk2c3 hk2l
  obtain ⟨wa6, hwa6⟩ : ∃ x, x = (w4.alloc (.cells #[.bool s_5, .slice A_5 n_5 c_5] 24)) := ⟨_, rfl⟩
  have hup : Up w4 wa6 := by rw [hwa6]; exact ((Up.refl w4).alloc _)
  have howa6 : (w.heap.size + 1 + 1 + 1 + 1) < w4.heap.size := hk6.lt
  have hzwa6 : w.heap.size ≤ w4.heap.size := hupw.size
  replace hk2 := hk2.up hup
  replace hk3 := hk3.up hup
  replace hk4 := hk4.up hup
  replace hk5 := hk5.up hup
  replace hk6 := hk6.up hup
  replace k0 := k0.up hup
  replace h1 := h1.up hup
  replace k1 := k1.up hup
  replace hupw := hupw.trans hup
  clear hup
  have hk8 : Bk wa6 (w4.heap.size) 24 #[.bool s_5, .slice A_5 n_5 c_5] := by
    have := (Bk.new w4 24 #[.bool s_5, .slice A_5 n_5 c_5])
    rw [hwa6]; simpa using this
  rw [← hwa6]
  clear hwa6
  refine (rmulN h1 k0 hb2).mono ?_
  rintro e w7 ⟨v_8, rfl, h_8, hup⟩
  replace hk2 := hk2.up hup
  replace hk3 := hk3.up hup
  replace hk4 := hk4.up hup
  replace hk5 := hk5.up hup
  replace hk6 := hk6.up hup
  replace hk8 := hk8.up hup
  replace k0 := k0.up hup
  replace k1 := k1.up hup
  replace hupw := hupw.trans hup
  clear hup
  obtain ⟨s_8, A_8, n_8, c_8, rfl⟩ := h_8.agg
  have hk2c0 := hk2.cell (i := 0) rfl
  have hk2c1 := hk2.cell (i := 1) rfl
  have hk2c2 := hk2.cell (i := 2) rfl
  have hk2c3 := hk2.cell (i := 3) rfl
  have hk2l := hk2.lt
  have hk3c0 := hk3.cell (i := 0) rfl
  have hk3c1 := hk3.cell (i := 1) rfl
  have hk3c2 := hk3.cell (i := 2) rfl
  have hk3c3 := hk3.cell (i := 3) rfl
  have hk3l := hk3.lt
  go_wp2_with fail
  clear hk2c0 hk2c1 hk2c2 hk2c3 hk2l hk3c0 hk3c1 hk3c2 hk3c3 hk3l
  obtain ⟨wa9, hwa9⟩ : ∃ x, x = (w7.alloc (.cells #[.bool s_8, .slice A_8 n_8 c_8] 24)) := ⟨_, rfl⟩
  have hup : Up w7 wa9 := by rw [hwa9]; exact ((Up.refl w7).alloc _)
  have howa9 : w4.heap.size < w7.heap.size := hk8.lt
  have hzwa9 : w.heap.size ≤ w7.heap.size := hupw.size
  replace hk4 := hk4.up hup
  replace hk5 := hk5.up hup
  replace hk6 := hk6.up hup
  replace k0 := k0.up hup
  replace k1 := k1.up hup
  replace hupw := hupw.trans hup
  clear hup
  have hk10 : Bk wa9 (w7.heap.size) 24 #[.bool s_8, .slice A_8 n_8 c_8] := by
    have := (Bk.new w7 24 #[.bool s_8, .slice A_8 n_8 c_8])
    rw [hwa9]; simpa using this
  rw [← hwa9]
  clear hwa9
  refine (rmulE k0 k1).mono ?_
  rintro e w10 ⟨v_11, rfl, h_11, hup⟩
  replace hk4 := hk4.up hup
  replace hk5 := hk5.up hup
  replace hk6 := hk6.up hup
  replace hk10 := hk10.up hup
  replace hupw := hupw.trans hup
  clear hup
  obtain ⟨s_11, A_11, n_11, c_11, rfl⟩ := h_11.agg
  go_wp2_with fail
  obtain ⟨wa12, hwa12⟩ : ∃ x, x = (w10.alloc (.cells #[.bool s_11, .slice A_11 n_11 c_11] 24)) := ⟨_, rfl⟩
  have hup : Up w10 wa12 := by rw [hwa12]; exact ((Up.refl w10).alloc _)
  have howa12 : w7.heap.size < w10.heap.size := hk10.lt
  have hzwa12 : w.heap.size ≤ w10.heap.size := hupw.size
  replace hk4 := hk4.up hup
  replace hk5 := hk5.up hup
  replace hk6 := hk6.up hup
  replace h_11 := h_11.up hup
  replace hupw := hupw.trans hup
  clear hup
  have hk12 : Bk wa12 (w10.heap.size) 24 #[.bool s_11, .slice A_11 n_11 c_11] := by
    have := (Bk.new w10 24 #[.bool s_11, .slice A_11 n_11 c_11])
    rw [hwa12]; simpa using this
  rw [← hwa12]
  clear hwa12
  have hk12c0 := hk12.cell (i := 0) rfl
  have hk12c1 := hk12.cell (i := 1) rfl
  have hk12l := hk12.lt
  have hk4c0 := hk4.cell (i := 0) rfl
  have hk4c1 := hk4.cell (i := 1) rfl
  have hk4l := hk4.lt
  have hk5c0 := hk5.cell (i := 0) rfl
  have hk5c1 := hk5.cell (i := 1) rfl
  have hk5l := hk5.lt
  have hk6c0 := hk6.cell (i := 0) rfl
  have hk6c1 := hk6.cell (i := 1) rfl
  have hk6l := hk6.lt
  have hk4f0 := hk4.frozen 0
  have hk4f1 := hk4.frozen 1
  have hk5f0 := hk5.frozen 0
  have hk5f1 := hk5.frozen 1
  have hk6f0 := hk6.frozen 0
  have hk6f1 := hk6.frozen 1
  go_region
  clear hk12c0 hk12c1 hk12l hk4c0 hk4c1 hk4l hk5c0 hk5c1 hk5l hk6c0 hk6c1 hk6l hk4f0 hk4f1 hk5f0 hk5f1 hk6f0 hk6f1
  obtain ⟨ws13, hws13⟩ : ∃ x, x = ((wa12.setCell ⟨(w.heap.size + 1 + 1), 0, none⟩ (.bool false)).setCell ⟨(w.heap.size + 1 + 1), 1, none⟩ (.slice none 0 0)) := ⟨_, rfl⟩
  have h_11' := h_11.st2 hk4 (noU2 _ _ _ _) (.bool false) (.slice none 0 0)
  rw [← hws13] at h_11'
  clear h_11
  have h_11 := h_11'
  clear h_11'
  replace hk5 := hk5.far2 (g' := (w.heap.size + 1 + 1)) (by omega) (.bool false) (.slice none 0 0)
  rw [← hws13] at hk5
  replace hk6 := hk6.far2 (g' := (w.heap.size + 1 + 1)) (by omega) (.bool false) (.slice none 0 0)
  rw [← hws13] at hk6
  replace hupw := hupw.two (g := (w.heap.size + 1 + 1)) (by omega) (.bool false) (.slice none 0 0)
  rw [← hws13] at hupw
  replace hk4 := hk4.two_bk (.bool false) (.slice none 0 0)
  rw [← hws13] at hk4
  have hszws13 : ws13.heap.size = wa12.heap.size := by rw [hws13]; simp
  rw [← hws13]
  clear hws13
  obtain ⟨ws14, hws14⟩ : ∃ x, x = ((ws13.setCell ⟨(w.heap.size + 1 + 1 + 1), 0, none⟩ (.bool false)).setCell ⟨(w.heap.size + 1 + 1 + 1), 1, none⟩ (.slice none 0 0)) := ⟨_, rfl⟩
  have h_11' := h_11.st2 hk5 (noU2 _ _ _ _) (.bool false) (.slice none 0 0)
  rw [← hws14] at h_11'
  clear h_11
  have h_11 := h_11'
  clear h_11'
  replace hk4 := hk4.far2 (g' := (w.heap.size + 1 + 1 + 1)) (by omega) (.bool false) (.slice none 0 0)
  rw [← hws14] at hk4
  replace hk6 := hk6.far2 (g' := (w.heap.size + 1 + 1 + 1)) (by omega) (.bool false) (.slice none 0 0)
  rw [← hws14] at hk6
  replace hupw := hupw.two (g := (w.heap.size + 1 + 1 + 1)) (by omega) (.bool false) (.slice none 0 0)
  rw [← hws14] at hupw
  replace hk5 := hk5.two_bk (.bool false) (.slice none 0 0)
  rw [← hws14] at hk5
  have hszws14 : ws14.heap.size = wa12.heap.size := by rw [hws14]; simp [hszws13]
  rw [← hws14]
  clear hws14
  obtain ⟨ws15, hws15⟩ : ∃ x, x = ((ws14.setCell ⟨(w.heap.size + 1 + 1 + 1 + 1), 0, none⟩ (.bool s_11)).setCell ⟨(w.heap.size + 1 + 1 + 1 + 1), 1, none⟩ (.slice A_11 n_11 c_11)) := ⟨_, rfl⟩
  have h_11' := h_11.st2 hk6 (noU2 _ _ _ _) (.bool s_11) (.slice A_11 n_11 c_11)
  rw [← hws15] at h_11'
  clear h_11
  have h_11 := h_11'
  clear h_11'
  replace hk4 := hk4.far2 (g' := (w.heap.size + 1 + 1 + 1 + 1)) (by omega) (.bool s_11) (.slice A_11 n_11 c_11)
  rw [← hws15] at hk4
  replace hk5 := hk5.far2 (g' := (w.heap.size + 1 + 1 + 1 + 1)) (by omega) (.bool s_11) (.slice A_11 n_11 c_11)
  rw [← hws15] at hk5
  replace hupw := hupw.two (g := (w.heap.size + 1 + 1 + 1 + 1)) (by omega) (.bool s_11) (.slice A_11 n_11 c_11)
  rw [← hws15] at hupw
  replace hk6 := hk6.two_bk (.bool s_11) (.slice A_11 n_11 c_11)
  rw [← hws15] at hk6
  have hszws15 : ws15.heap.size = wa12.heap.size := by rw [hws15]; simp [hszws14]
  rw [← hws15]
  clear hws15
  clear hszws13 hszws14 hszws15
  obtain ⟨wr16, hwr16⟩ : ∃ x, x = ws15.drew := ⟨_, rfl⟩
  have hup : Up ws15 wr16 := by rw [hwr16]; exact (Up.refl ws15).drew
  replace hk4 := hk4.up hup
  replace hk5 := hk5.up hup
  replace hk6 := hk6.up hup
  replace h_11 := h_11.up hup
  replace hupw := hupw.trans hup
  clear hup
  rw [← hwr16]
  clear hwr16
  go_wp2_with fail
  have hk4c0 := hk4.cell (i := 0) rfl
  have hk4c1 := hk4.cell (i := 1) rfl
  have hk5c0 := hk5.cell (i := 0) rfl
  have hk5c1 := hk5.cell (i := 1) rfl
  have hk6c0 := hk6.cell (i := 0) rfl
  have hk6c1 := hk6.cell (i := 1) rfl
  exact bodyPost_ret (v := .tuple #[.agg #[.bool false, .slice none 0 0], .agg #[.bool false, .slice none 0 0], .agg #[.bool s_11, .slice A_11 n_11 c_11], .int .i64 3]) (by simp [results, Tryz.results74, go_sem, hk4c0, hk4c1, hk5c0, hk5c1, hk6c0, hk6c1]) rfl ⟨_, _, _, rfl, (Iz.zero _), (Iz.zero _), h_11, hupw⟩
set_option maxRecDepth 100000 in
set_option maxHeartbeats 4000000 in
theorem cross_3 {a b : Rat} (v0 v1 : Value) (w : World) (f0 : Fz w v0 (nm a) (dn a)) (f1 : Fz w v1 (nm b) (dn b)) (hb : okB (nm a * dn b) = true) (hb2 : okB (nm b * dn a) = true) (hd : okB (dn a * dn b) = false) :
    Calls Tryz.prog 74 #[v0, v1] w (PIIIE w (nm a * dn b) (nm b * dn a) 0 0) := by
  obtain ⟨s0, A0, n0, c0, t0, B0, m0, d0, rfl, h0, k0⟩ := f0
  obtain ⟨s1, A1, n1, c1, t1, B1, m1, d1, rfl, h1, k1⟩ := f1
  have hupw : Up w w := Up.refl w
  go_enter Tryz.func74, Tryz.ntmps74
  go_wp2_with fail
  obtain ⟨wa1, hwa1⟩ : ∃ x, x = (((((w.alloc (.cells #[.bool s0, .slice A0 n0 c0, .bool t0, .slice B0 m0 d0] 29)).alloc (.cells #[.bool s1, .slice A1 n1 c1, .bool t1, .slice B1 m1 d1] 29)).alloc (.cells #[.bool false, .slice none 0 0] 24)).alloc (.cells #[.bool false, .slice none 0 0] 24)).alloc (.cells #[.bool false, .slice none 0 0] 24)) := ⟨_, rfl⟩
  have hup : Up w wa1 := by rw [hwa1]; exact ((((((Up.refl w).alloc _).alloc _).alloc _).alloc _).alloc _)
  have hzwa1 : w.heap.size ≤ w.heap.size := hupw.size
  replace h0 := h0.up hup
  replace k0 := k0.up hup
  replace h1 := h1.up hup
  replace k1 := k1.up hup
  replace hupw := hupw.trans hup
  clear hup
  have hk2 : Bk wa1 (w.heap.size) 29 #[.bool s0, .slice A0 n0 c0, .bool t0, .slice B0 m0 d0] := by
    have := (((((Bk.new w 29 #[.bool s0, .slice A0 n0 c0, .bool t0, .slice B0 m0 d0]).alloc (.cells #[.bool s1, .slice A1 n1 c1, .bool t1, .slice B1 m1 d1] 29)).alloc (.cells #[.bool false, .slice none 0 0] 24)).alloc (.cells #[.bool false, .slice none 0 0] 24)).alloc (.cells #[.bool false, .slice none 0 0] 24))
    rw [hwa1]; simpa using this
  have hk3 : Bk wa1 (w.heap.size + 1) 29 #[.bool s1, .slice A1 n1 c1, .bool t1, .slice B1 m1 d1] := by
    have := ((((Bk.new (w.alloc (.cells #[.bool s0, .slice A0 n0 c0, .bool t0, .slice B0 m0 d0] 29)) 29 #[.bool s1, .slice A1 n1 c1, .bool t1, .slice B1 m1 d1]).alloc (.cells #[.bool false, .slice none 0 0] 24)).alloc (.cells #[.bool false, .slice none 0 0] 24)).alloc (.cells #[.bool false, .slice none 0 0] 24))
    rw [hwa1]; simpa using this
  have hk4 : Bk wa1 (w.heap.size + 1 + 1) 24 #[.bool false, .slice none 0 0] := by
    have := (((Bk.new ((w.alloc (.cells #[.bool s0, .slice A0 n0 c0, .bool t0, .slice B0 m0 d0] 29)).alloc (.cells #[.bool s1, .slice A1 n1 c1, .bool t1, .slice B1 m1 d1] 29)) 24 #[.bool false, .slice none 0 0]).alloc (.cells #[.bool false, .slice none 0 0] 24)).alloc (.cells #[.bool false, .slice none 0 0] 24))
    rw [hwa1]; simpa using this
  have hk5 : Bk wa1 (w.heap.size + 1 + 1 + 1) 24 #[.bool false, .slice none 0 0] := by
    have := ((Bk.new (((w.alloc (.cells #[.bool s0, .slice A0 n0 c0, .bool t0, .slice B0 m0 d0] 29)).alloc (.cells #[.bool s1, .slice A1 n1 c1, .bool t1, .slice B1 m1 d1] 29)).alloc (.cells #[.bool false, .slice none 0 0] 24)) 24 #[.bool false, .slice none 0 0]).alloc (.cells #[.bool false, .slice none 0 0] 24))
    rw [hwa1]; simpa using this
  have hk6 : Bk wa1 (w.heap.size + 1 + 1 + 1 + 1) 24 #[.bool false, .slice none 0 0] := by
    have := (Bk.new ((((w.alloc (.cells #[.bool s0, .slice A0 n0 c0, .bool t0, .slice B0 m0 d0] 29)).alloc (.cells #[.bool s1, .slice A1 n1 c1, .bool t1, .slice B1 m1 d1] 29)).alloc (.cells #[.bool false, .slice none 0 0] 24)).alloc (.cells #[.bool false, .slice none 0 0] 24)) 24 #[.bool false, .slice none 0 0])
    rw [hwa1]; simpa using this
  rw [← hwa1]
  clear hwa1
  refine (rvalidRQ (Fz.mk h0 k0)).mono ?_
  rintro e w2 ⟨rfl, hup⟩
  replace hk2 := hk2.up hup
  replace hk3 := hk3.up hup
  replace hk4 := hk4.up hup
  replace hk5 := hk5.up hup
  replace hk6 := hk6.up hup
  replace h0 := h0.up hup
  replace k0 := k0.up hup
  replace h1 := h1.up hup
  replace k1 := k1.up hup
  replace hupw := hupw.trans hup
  clear hup
  have hk3c0 := hk3.cell (i := 0) rfl
  have hk3c1 := hk3.cell (i := 1) rfl
  have hk3c2 := hk3.cell (i := 2) rfl
  have hk3c3 := hk3.cell (i := 3) rfl
  have hk3l := hk3.lt
  go_wp2_with fail
  clear hk3c0 hk3c1 hk3c2 hk3c3 hk3l
  refine (rvalidRQ (Fz.mk h1 k1)).mono ?_
  rintro e w3 ⟨rfl, hup⟩
  replace hk2 := hk2.up hup
  replace hk3 := hk3.up hup
  replace hk4 := hk4.up hup
  replace hk5 := hk5.up hup
  replace hk6 := hk6.up hup
  replace h0 := h0.up hup
  replace k0 := k0.up hup
  replace h1 := h1.up hup
  replace k1 := k1.up hup
  replace hupw := hupw.trans hup
  clear hup
  have hk2c0 := hk2.cell (i := 0) rfl
  have hk2c1 := hk2.cell (i := 1) rfl
  have hk2c2 := hk2.cell (i := 2) rfl
  have hk2c3 := hk2.cell (i := 3) rfl
  have hk2l := hk2.lt
  have hk3c0 := hk3.cell (i := 0) rfl
  have hk3c1 := hk3.cell (i := 1) rfl
  have hk3c2 := hk3.cell (i := 2) rfl
  have hk3c3 := hk3.cell (i := 3) rfl
  have hk3l := hk3.lt
  go_wp2_with fail
  clear hk2c0 hk2c1 hk2c2 hk2c3 hk2l hk3c0 hk3c1 hk3c2 hk3c3 hk3l
  refine (rmulQ h0 k1 hb).mono ?_
  rintro e w4 ⟨v_5, rfl, h_5, hup⟩
  replace hk2 := hk2.up hup
  replace hk3 := hk3.up hup
  replace hk4 := hk4.up hup
  replace hk5 := hk5.up hup
  replace hk6 := hk6.up hup
  replace k0 := k0.up hup
  replace h1 := h1.up hup
  replace k1 := k1.up hup
  replace hupw := hupw.trans hup
  clear hup
  obtain ⟨s_5, A_5, n_5, c_5, rfl⟩ := h_5.agg
  have hk3c0 := hk3.cell (i := 0) rfl
  have hk3c1 := hk3.cell (i := 1) rfl
  have hk3c2 := hk3.cell (i := 2) rfl
  have hk3c3 := hk3.cell (i := 3) rfl
  have hk3l := hk3.lt
  have hk2c0 := hk2.cell (i := 0) rfl
  have hk2c1 := hk2.cell (i := 1) rfl
  have hk2c2 := hk2.cell (i := 2) rfl
  have hk2c3 := hk2.cell (i := 3) rfl
  have hk2l := hk2.lt
  go_wp2_with fail
  clear hk3c0 hk3c1 hk3c2 hk3c3 hk3l hk2c0 hk2c1 hk2c2 hk2c3 hk2l
  obtain ⟨wa6, hwa6⟩ : ∃ x, x = (w4.alloc (.cells #[.bool s_5, .slice A_5 n_5 c_5] 24)) := ⟨_, rfl⟩
  have hup : Up w4 wa6 := by rw [hwa6]; exact ((Up.refl w4).alloc _)
  have howa6 : (w.heap.size + 1 + 1 + 1 + 1) < w4.heap.size := hk6.lt
  have hzwa6 : w.heap.size ≤ w4.heap.size := hupw.size
  replace hk2 := hk2.up hup
  replace hk3 := hk3.up hup
  replace hk4 := hk4.up hup
  replace hk5 := hk5.up hup
  replace hk6 := hk6.up hup
  replace k0 := k0.up hup
  replace h1 := h1.up hup
  replace k1 := k1.up hup
  replace h_5 := h_5.up hup
  replace hupw := hupw.trans hup
  clear hup
  have hk8 : Bk wa6 (w4.heap.size) 24 #[.bool s_5, .slice A_5 n_5 c_5] := by
    have := (Bk.new w4 24 #[.bool s_5, .slice A_5 n_5 c_5])
    rw [hwa6]; simpa using this
  rw [← hwa6]
  clear hwa6
  refine (rmulQ h1 k0 hb2).mono ?_
  rintro e w7 ⟨v_8, rfl, h_8, hup⟩
  replace hk2 := hk2.up hup
  replace hk3 := hk3.up hup
  replace hk4 := hk4.up hup
  replace hk5 := hk5.up hup
  replace hk6 := hk6.up hup
  replace hk8 := hk8.up hup
  replace k0 := k0.up hup
  replace k1 := k1.up hup
  replace h_5 := h_5.up hup
  replace hupw := hupw.trans hup
  clear hup
  obtain ⟨s_8, A_8, n_8, c_8, rfl⟩ := h_8.agg
  have hk2c0 := hk2.cell (i := 0) rfl
  have hk2c1 := hk2.cell (i := 1) rfl
  have hk2c2 := hk2.cell (i := 2) rfl
  have hk2c3 := hk2.cell (i := 3) rfl
  have hk2l := hk2.lt
  have hk3c0 := hk3.cell (i := 0) rfl
  have hk3c1 := hk3.cell (i := 1) rfl
  have hk3c2 := hk3.cell (i := 2) rfl
  have hk3c3 := hk3.cell (i := 3) rfl
  have hk3l := hk3.lt
  go_wp2_with fail
  clear hk2c0 hk2c1 hk2c2 hk2c3 hk2l hk3c0 hk3c1 hk3c2 hk3c3 hk3l
  obtain ⟨wa9, hwa9⟩ : ∃ x, x = (w7.alloc (.cells #[.bool s_8, .slice A_8 n_8 c_8] 24)) := ⟨_, rfl⟩
  have hup : Up w7 wa9 := by rw [hwa9]; exact ((Up.refl w7).alloc _)
  have howa9 : w4.heap.size < w7.heap.size := hk8.lt
  have hzwa9 : w.heap.size ≤ w7.heap.size := hupw.size
  replace hk4 := hk4.up hup
  replace hk5 := hk5.up hup
  replace hk6 := hk6.up hup
  replace hk8 := hk8.up hup
  replace k0 := k0.up hup
  replace k1 := k1.up hup
  replace h_5 := h_5.up hup
  replace h_8 := h_8.up hup
  replace hupw := hupw.trans hup
  clear hup
  have hk10 : Bk wa9 (w7.heap.size) 24 #[.bool s_8, .slice A_8 n_8 c_8] := by
    have := (Bk.new w7 24 #[.bool s_8, .slice A_8 n_8 c_8])
    rw [hwa9]; simpa using this
  rw [← hwa9]
  clear hwa9
  refine (rmulN k0 k1 hd).mono ?_
  rintro e w10 ⟨v_11, rfl, h_11, hup⟩
  replace hk4 := hk4.up hup
  replace hk5 := hk5.up hup
  replace hk6 := hk6.up hup
  replace hk8 := hk8.up hup
  replace hk10 := hk10.up hup
  replace h_5 := h_5.up hup
  replace h_8 := h_8.up hup
  replace hupw := hupw.trans hup
  clear hup
  obtain ⟨s_11, A_11, n_11, c_11, rfl⟩ := h_11.agg
  go_wp2_with fail
  obtain ⟨wa12, hwa12⟩ : ∃ x, x = (w10.alloc (.cells #[.bool s_11, .slice A_11 n_11 c_11] 24)) := ⟨_, rfl⟩
  have hup : Up w10 wa12 := by rw [hwa12]; exact ((Up.refl w10).alloc _)
  have howa12 : w7.heap.size < w10.heap.size := hk10.lt
  have hzwa12 : w.heap.size ≤ w10.heap.size := hupw.size
  replace hk4 := hk4.up hup
  replace hk5 := hk5.up hup
  replace hk6 := hk6.up hup
  replace hk8 := hk8.up hup
  replace hk10 := hk10.up hup
  replace h_5 := h_5.up hup
  replace h_8 := h_8.up hup
  replace hupw := hupw.trans hup
  clear hup
  have hk12 : Bk wa12 (w10.heap.size) 24 #[.bool s_11, .slice A_11 n_11 c_11] := by
    have := (Bk.new w10 24 #[.bool s_11, .slice A_11 n_11 c_11])
    rw [hwa12]; simpa using this
  rw [← hwa12]
  clear hwa12
  have hk8c0 := hk8.cell (i := 0) rfl
  have hk8c1 := hk8.cell (i := 1) rfl
  have hk8l := hk8.lt
  have hk10c0 := hk10.cell (i := 0) rfl
  have hk10c1 := hk10.cell (i := 1) rfl
  have hk10l := hk10.lt
  have hk4c0 := hk4.cell (i := 0) rfl
  have hk4c1 := hk4.cell (i := 1) rfl
  have hk4l := hk4.lt
  have hk5c0 := hk5.cell (i := 0) rfl
  have hk5c1 := hk5.cell (i := 1) rfl
  have hk5l := hk5.lt
  have hk6c0 := hk6.cell (i := 0) rfl
  have hk6c1 := hk6.cell (i := 1) rfl
  have hk6l := hk6.lt
  have hk4f0 := hk4.frozen 0
  have hk4f1 := hk4.frozen 1
  have hk5f0 := hk5.frozen 0
  have hk5f1 := hk5.frozen 1
  have hk6f0 := hk6.frozen 0
  have hk6f1 := hk6.frozen 1
  go_region
  clear hk8c0 hk8c1 hk8l hk10c0 hk10c1 hk10l hk4c0 hk4c1 hk4l hk5c0 hk5c1 hk5l hk6c0 hk6c1 hk6l hk4f0 hk4f1 hk5f0 hk5f1 hk6f0 hk6f1
  obtain ⟨ws13, hws13⟩ : ∃ x, x = ((wa12.setCell ⟨(w.heap.size + 1 + 1), 0, none⟩ (.bool s_5)).setCell ⟨(w.heap.size + 1 + 1), 1, none⟩ (.slice A_5 n_5 c_5)) := ⟨_, rfl⟩
  have h_5' := h_5.st2 hk4 (noU2 _ _ _ _) (.bool s_5) (.slice A_5 n_5 c_5)
  have h_8' := h_8.st2 hk4 (noU2 _ _ _ _) (.bool s_5) (.slice A_5 n_5 c_5)
  rw [← hws13] at h_5'
  clear h_5
  have h_5 := h_5'
  clear h_5'
  rw [← hws13] at h_8'
  clear h_8
  have h_8 := h_8'
  clear h_8'
  replace hk5 := hk5.far2 (g' := (w.heap.size + 1 + 1)) (by omega) (.bool s_5) (.slice A_5 n_5 c_5)
  rw [← hws13] at hk5
  replace hk6 := hk6.far2 (g' := (w.heap.size + 1 + 1)) (by omega) (.bool s_5) (.slice A_5 n_5 c_5)
  rw [← hws13] at hk6
  replace hupw := hupw.two (g := (w.heap.size + 1 + 1)) (by omega) (.bool s_5) (.slice A_5 n_5 c_5)
  rw [← hws13] at hupw
  replace hk4 := hk4.two_bk (.bool s_5) (.slice A_5 n_5 c_5)
  rw [← hws13] at hk4
  have hszws13 : ws13.heap.size = wa12.heap.size := by rw [hws13]; simp
  rw [← hws13]
  clear hws13
  obtain ⟨ws14, hws14⟩ : ∃ x, x = ((ws13.setCell ⟨(w.heap.size + 1 + 1 + 1), 0, none⟩ (.bool s_8)).setCell ⟨(w.heap.size + 1 + 1 + 1), 1, none⟩ (.slice A_8 n_8 c_8)) := ⟨_, rfl⟩
  have h_5' := h_5.st2 hk5 (noU2 _ _ _ _) (.bool s_8) (.slice A_8 n_8 c_8)
  have h_8' := h_8.st2 hk5 (noU2 _ _ _ _) (.bool s_8) (.slice A_8 n_8 c_8)
  rw [← hws14] at h_5'
  clear h_5
  have h_5 := h_5'
  clear h_5'
  rw [← hws14] at h_8'
  clear h_8
  have h_8 := h_8'
  clear h_8'
  replace hk4 := hk4.far2 (g' := (w.heap.size + 1 + 1 + 1)) (by omega) (.bool s_8) (.slice A_8 n_8 c_8)
  rw [← hws14] at hk4
  replace hk6 := hk6.far2 (g' := (w.heap.size + 1 + 1 + 1)) (by omega) (.bool s_8) (.slice A_8 n_8 c_8)
  rw [← hws14] at hk6
  replace hupw := hupw.two (g := (w.heap.size + 1 + 1 + 1)) (by omega) (.bool s_8) (.slice A_8 n_8 c_8)
  rw [← hws14] at hupw
  replace hk5 := hk5.two_bk (.bool s_8) (.slice A_8 n_8 c_8)
  rw [← hws14] at hk5
  have hszws14 : ws14.heap.size = wa12.heap.size := by rw [hws14]; simp [hszws13]
  rw [← hws14]
  clear hws14
  obtain ⟨ws15, hws15⟩ : ∃ x, x = ((ws14.setCell ⟨(w.heap.size + 1 + 1 + 1 + 1), 0, none⟩ (.bool false)).setCell ⟨(w.heap.size + 1 + 1 + 1 + 1), 1, none⟩ (.slice none 0 0)) := ⟨_, rfl⟩
  have h_5' := h_5.st2 hk6 (noU2 _ _ _ _) (.bool false) (.slice none 0 0)
  have h_8' := h_8.st2 hk6 (noU2 _ _ _ _) (.bool false) (.slice none 0 0)
  rw [← hws15] at h_5'
  clear h_5
  have h_5 := h_5'
  clear h_5'
  rw [← hws15] at h_8'
  clear h_8
  have h_8 := h_8'
  clear h_8'
  replace hk4 := hk4.far2 (g' := (w.heap.size + 1 + 1 + 1 + 1)) (by omega) (.bool false) (.slice none 0 0)
  rw [← hws15] at hk4
  replace hk5 := hk5.far2 (g' := (w.heap.size + 1 + 1 + 1 + 1)) (by omega) (.bool false) (.slice none 0 0)
  rw [← hws15] at hk5
  replace hupw := hupw.two (g := (w.heap.size + 1 + 1 + 1 + 1)) (by omega) (.bool false) (.slice none 0 0)
  rw [← hws15] at hupw
  replace hk6 := hk6.two_bk (.bool false) (.slice none 0 0)
  rw [← hws15] at hk6
  have hszws15 : ws15.heap.size = wa12.heap.size := by rw [hws15]; simp [hszws14]
  rw [← hws15]
  clear hws15
  clear hszws13 hszws14 hszws15
  obtain ⟨wr16, hwr16⟩ : ∃ x, x = ws15.drew := ⟨_, rfl⟩
  have hup : Up ws15 wr16 := by rw [hwr16]; exact (Up.refl ws15).drew
  replace hk4 := hk4.up hup
  replace hk5 := hk5.up hup
  replace hk6 := hk6.up hup
  replace h_5 := h_5.up hup
  replace h_8 := h_8.up hup
  replace hupw := hupw.trans hup
  clear hup
  rw [← hwr16]
  clear hwr16
  go_wp2_with fail
  have hk4c0 := hk4.cell (i := 0) rfl
  have hk4c1 := hk4.cell (i := 1) rfl
  have hk5c0 := hk5.cell (i := 0) rfl
  have hk5c1 := hk5.cell (i := 1) rfl
  have hk6c0 := hk6.cell (i := 0) rfl
  have hk6c1 := hk6.cell (i := 1) rfl
  exact bodyPost_ret (v := .tuple #[.agg #[.bool s_5, .slice A_5 n_5 c_5], .agg #[.bool s_8, .slice A_8 n_8 c_8], .agg #[.bool false, .slice none 0 0], .int .i64 0]) (by simp [results, Tryz.results74, go_sem, hk4c0, hk4c1, hk5c0, hk5c1, hk6c0, hk6c1]) rfl ⟨_, _, _, rfl, h_5, h_8, (Iz.zero _), hupw⟩
set_option maxRecDepth 100000 in
set_option maxHeartbeats 4000000 in
theorem cross_4 {a b : Rat} (v0 v1 : Value) (w : World) (f0 : Fz w v0 (nm a) (dn a)) (f1 : Fz w v1 (nm b) (dn b)) (hb : okB (nm a * dn b) = true) (hb2 : okB (nm b * dn a) = true) (hd : okB (dn a * dn b) = true) :
    Calls Tryz.prog 74 #[v0, v1] w (PIIIE w (nm a * dn b) (nm b * dn a) (dn a * dn b) 0) := by
  obtain ⟨s0, A0, n0, c0, t0, B0, m0, d0, rfl, h0, k0⟩ := f0
  obtain ⟨s1, A1, n1, c1, t1, B1, m1, d1, rfl, h1, k1⟩ := f1
  have hupw : Up w w := Up.refl w
  go_enter Tryz.func74, Tryz.ntmps74
  go_wp2_with fail
  obtain ⟨wa1, hwa1⟩ : ∃ x, x = (((((w.alloc (.cells #[.bool s0, .slice A0 n0 c0, .bool t0, .slice B0 m0 d0] 29)).alloc (.cells #[.bool s1, .slice A1 n1 c1, .bool t1, .slice B1 m1 d1] 29)).alloc (.cells #[.bool false, .slice none 0 0] 24)).alloc (.cells #[.bool false, .slice none 0 0] 24)).alloc (.cells #[.bool false, .slice none 0 0] 24)) := ⟨_, rfl⟩
  have hup : Up w wa1 := by rw [hwa1]; exact ((((((Up.refl w).alloc _).alloc _).alloc _).alloc _).alloc _)
  have hzwa1 : w.heap.size ≤ w.heap.size := hupw.size
  replace h0 := h0.up hup
  replace k0 := k0.up hup
  replace h1 := h1.up hup
  replace k1 := k1.up hup
  replace hupw := hupw.trans hup
  clear hup
  have hk2 : Bk wa1 (w.heap.size) 29 #[.bool s0, .slice A0 n0 c0, .bool t0, .slice B0 m0 d0] := by
    have := (((((Bk.new w 29 #[.bool s0, .slice A0 n0 c0, .bool t0, .slice B0 m0 d0]).alloc (.cells #[.bool s1, .slice A1 n1 c1, .bool t1, .slice B1 m1 d1] 29)).alloc (.cells #[.bool false, .slice none 0 0] 24)).alloc (.cells #[.bool false, .slice none 0 0] 24)).alloc (.cells #[.bool false, .slice none 0 0] 24))
    rw [hwa1]; simpa using this
  have hk3 : Bk wa1 (w.heap.size + 1) 29 #[.bool s1, .slice A1 n1 c1, .bool t1, .slice B1 m1 d1] := by
    have := ((((Bk.new (w.alloc (.cells #[.bool s0, .slice A0 n0 c0, .bool t0, .slice B0 m0 d0] 29)) 29 #[.bool s1, .slice A1 n1 c1, .bool t1, .slice B1 m1 d1]).alloc (.cells #[.bool false, .slice none 0 0] 24)).alloc (.cells #[.bool false, .slice none 0 0] 24)).alloc (.cells #[.bool false, .slice none 0 0] 24))
    rw [hwa1]; simpa using this
  have hk4 : Bk wa1 (w.heap.size + 1 + 1) 24 #[.bool false, .slice none 0 0] := by
    have := (((Bk.new ((w.alloc (.cells #[.bool s0, .slice A0 n0 c0, .bool t0, .slice B0 m0 d0] 29)).alloc (.cells #[.bool s1, .slice A1 n1 c1, .bool t1, .slice B1 m1 d1] 29)) 24 #[.bool false, .slice none 0 0]).alloc (.cells #[.bool false, .slice none 0 0] 24)).alloc (.cells #[.bool false, .slice none 0 0] 24))
    rw [hwa1]; simpa using this
  have hk5 : Bk wa1 (w.heap.size + 1 + 1 + 1) 24 #[.bool false, .slice none 0 0] := by
    have := ((Bk.new (((w.alloc (.cells #[.bool s0, .slice A0 n0 c0, .bool t0, .slice B0 m0 d0] 29)).alloc (.cells #[.bool s1, .slice A1 n1 c1, .bool t1, .slice B1 m1 d1] 29)).alloc (.cells #[.bool false, .slice none 0 0] 24)) 24 #[.bool false, .slice none 0 0]).alloc (.cells #[.bool false, .slice none 0 0] 24))
    rw [hwa1]; simpa using this
  have hk6 : Bk wa1 (w.heap.size + 1 + 1 + 1 + 1) 24 #[.bool false, .slice none 0 0] := by
    have := (Bk.new ((((w.alloc (.cells #[.bool s0, .slice A0 n0 c0, .bool t0, .slice B0 m0 d0] 29)).alloc (.cells #[.bool s1, .slice A1 n1 c1, .bool t1, .slice B1 m1 d1] 29)).alloc (.cells #[.bool false, .slice none 0 0] 24)).alloc (.cells #[.bool false, .slice none 0 0] 24)) 24 #[.bool false, .slice none 0 0])
    rw [hwa1]; simpa using this
  rw [← hwa1]
  clear hwa1
  refine (rvalidRQ (Fz.mk h0 k0)).mono ?_
  rintro e w2 ⟨rfl, hup⟩
  replace hk2 := hk2.up hup
  replace hk3 := hk3.up hup
  replace hk4 := hk4.up hup
  replace hk5 := hk5.up hup
  replace hk6 := hk6.up hup
  replace h0 := h0.up hup
  replace k0 := k0.up hup
  replace h1 := h1.up hup
  replace k1 := k1.up hup
  replace hupw := hupw.trans hup
  clear hup
  have hk3c0 := hk3.cell (i := 0) rfl
  have hk3c1 := hk3.cell (i := 1) rfl
  have hk3c2 := hk3.cell (i := 2) rfl
  have hk3c3 := hk3.cell (i := 3) rfl
  have hk3l := hk3.lt
  go_wp2_with fail
  clear hk3c0 hk3c1 hk3c2 hk3c3 hk3l
  refine (rvalidRQ (Fz.mk h1 k1)).mono ?_
  rintro e w3 ⟨rfl, hup⟩
  replace hk2 := hk2.up hup
  replace hk3 := hk3.up hup
  replace hk4 := hk4.up hup
  replace hk5 := hk5.up hup
  replace hk6 := hk6.up hup
  replace h0 := h0.up hup
  replace k0 := k0.up hup
  replace h1 := h1.up hup
  replace k1 := k1.up hup
  replace hupw := hupw.trans hup
  clear hup
  have hk2c0 := hk2.cell (i := 0) rfl
  have hk2c1 := hk2.cell (i := 1) rfl
  have hk2c2 := hk2.cell (i := 2) rfl
  have hk2c3 := hk2.cell (i := 3) rfl
  have hk2l := hk2.lt
  have hk3c0 := hk3.cell (i := 0) rfl
  have hk3c1 := hk3.cell (i := 1) rfl
  have hk3c2 := hk3.cell (i := 2) rfl
  have hk3c3 := hk3.cell (i := 3) rfl
  have hk3l := hk3.lt
  go_wp2_with fail
  clear hk2c0 hk2c1 hk2c2 hk2c3 hk2l hk3c0 hk3c1 hk3c2 hk3c3 hk3l
  refine (rmulQ h0 k1 hb).mono ?_
  rintro e w4 ⟨v_5, rfl, h_5, hup⟩
  replace hk2 := hk2.up hup
  replace hk3 := hk3.up hup
  replace hk4 := hk4.up hup
  replace hk5 := hk5.up hup
  replace hk6 := hk6.up hup
  replace k0 := k0.up hup
  replace h1 := h1.up hup
  replace k1 := k1.up hup
  replace hupw := hupw.trans hup
  clear hup
  obtain ⟨s_5, A_5, n_5, c_5, rfl⟩ := h_5.agg
  have hk3c0 := hk3.cell (i := 0) rfl
  have hk3c1 := hk3.cell (i := 1) rfl
  have hk3c2 := hk3.cell (i := 2) rfl
  have hk3c3 := hk3.cell (i := 3) rfl
  have hk3l := hk3.lt
  have hk2c0 := hk2.cell (i := 0) rfl
  have hk2c1 := hk2.cell (i := 1) rfl
  have hk2c2 := hk2.cell (i := 2) rfl
  have hk2c3 := hk2.cell (i := 3) rfl
  have hk2l := hk2.lt
  go_wp2_with fail
  clear hk3c0 hk3c1 hk3c2 hk3c3 hk3l hk2c0 hk2c1 hk2c2 hk2c3 hk2l
  obtain ⟨wa6, hwa6⟩ : ∃ x, x = (w4.alloc (.cells #[.bool s_5, .slice A_5 n_5 c_5] 24)) := ⟨_, rfl⟩
  have hup : Up w4 wa6 := by rw [hwa6]; exact ((Up.refl w4).alloc _)
  have howa6 : (w.heap.size + 1 + 1 + 1 + 1) < w4.heap.size := hk6.lt
  have hzwa6 : w.heap.size ≤ w4.heap.size := hupw.size
  replace hk2 := hk2.up hup
  replace hk3 := hk3.up hup
  replace hk4 := hk4.up hup
  replace hk5 := hk5.up hup
  replace hk6 := hk6.up hup
  replace k0 := k0.up hup
  replace h1 := h1.up hup
  replace k1 := k1.up hup
  replace h_5 := h_5.up hup
  replace hupw := hupw.trans hup
  clear hup
  have hk8 : Bk wa6 (w4.heap.size) 24 #[.bool s_5, .slice A_5 n_5 c_5] := by
    have := (Bk.new w4 24 #[.bool s_5, .slice A_5 n_5 c_5])
    rw [hwa6]; simpa using this
  rw [← hwa6]
  clear hwa6
  refine (rmulQ h1 k0 hb2).mono ?_
  rintro e w7 ⟨v_8, rfl, h_8, hup⟩
  replace hk2 := hk2.up hup
  replace hk3 := hk3.up hup
  replace hk4 := hk4.up hup
  replace hk5 := hk5.up hup
  replace hk6 := hk6.up hup
  replace hk8 := hk8.up hup
  replace k0 := k0.up hup
  replace k1 := k1.up hup
  replace h_5 := h_5.up hup
  replace hupw := hupw.trans hup
  clear hup
  obtain ⟨s_8, A_8, n_8, c_8, rfl⟩ := h_8.agg
  have hk2c0 := hk2.cell (i := 0) rfl
  have hk2c1 := hk2.cell (i := 1) rfl
  have hk2c2 := hk2.cell (i := 2) rfl
  have hk2c3 := hk2.cell (i := 3) rfl
  have hk2l := hk2.lt
  have hk3c0 := hk3.cell (i := 0) rfl
  have hk3c1 := hk3.cell (i := 1) rfl
  have hk3c2 := hk3.cell (i := 2) rfl
  have hk3c3 := hk3.cell (i := 3) rfl
  have hk3l := hk3.lt
  go_wp2_with fail
  clear hk2c0 hk2c1 hk2c2 hk2c3 hk2l hk3c0 hk3c1 hk3c2 hk3c3 hk3l
  obtain ⟨wa9, hwa9⟩ : ∃ x, x = (w7.alloc (.cells #[.bool s_8, .slice A_8 n_8 c_8] 24)) := ⟨_, rfl⟩
  have hup : Up w7 wa9 := by rw [hwa9]; exact ((Up.refl w7).alloc _)
  have howa9 : w4.heap.size < w7.heap.size := hk8.lt
  have hzwa9 : w.heap.size ≤ w7.heap.size := hupw.size
  replace hk4 := hk4.up hup
  replace hk5 := hk5.up hup
  replace hk6 := hk6.up hup
  replace hk8 := hk8.up hup
  replace k0 := k0.up hup
  replace k1 := k1.up hup
  replace h_5 := h_5.up hup
  replace h_8 := h_8.up hup
  replace hupw := hupw.trans hup
  clear hup
  have hk10 : Bk wa9 (w7.heap.size) 24 #[.bool s_8, .slice A_8 n_8 c_8] := by
    have := (Bk.new w7 24 #[.bool s_8, .slice A_8 n_8 c_8])
    rw [hwa9]; simpa using this
  rw [← hwa9]
  clear hwa9
  refine (rmulQ k0 k1 hd).mono ?_
  rintro e w10 ⟨v_11, rfl, h_11, hup⟩
  replace hk4 := hk4.up hup
  replace hk5 := hk5.up hup
  replace hk6 := hk6.up hup
  replace hk8 := hk8.up hup
  replace hk10 := hk10.up hup
  replace h_5 := h_5.up hup
  replace h_8 := h_8.up hup
  replace hupw := hupw.trans hup
  clear hup
  obtain ⟨s_11, A_11, n_11, c_11, rfl⟩ := h_11.agg
  go_wp2_with fail
  obtain ⟨wa12, hwa12⟩ : ∃ x, x = (w10.alloc (.cells #[.bool s_11, .slice A_11 n_11 c_11] 24)) := ⟨_, rfl⟩
  have hup : Up w10 wa12 := by rw [hwa12]; exact ((Up.refl w10).alloc _)
  have howa12 : w7.heap.size < w10.heap.size := hk10.lt
  have hzwa12 : w.heap.size ≤ w10.heap.size := hupw.size
  replace hk4 := hk4.up hup
  replace hk5 := hk5.up hup
  replace hk6 := hk6.up hup
  replace hk8 := hk8.up hup
  replace hk10 := hk10.up hup
  replace h_5 := h_5.up hup
  replace h_8 := h_8.up hup
  replace h_11 := h_11.up hup
  replace hupw := hupw.trans hup
  clear hup
  have hk12 : Bk wa12 (w10.heap.size) 24 #[.bool s_11, .slice A_11 n_11 c_11] := by
    have := (Bk.new w10 24 #[.bool s_11, .slice A_11 n_11 c_11])
    rw [hwa12]; simpa using this
  rw [← hwa12]
  clear hwa12
  have hk8c0 := hk8.cell (i := 0) rfl
  have hk8c1 := hk8.cell (i := 1) rfl
  have hk8l := hk8.lt
  have hk10c0 := hk10.cell (i := 0) rfl
  have hk10c1 := hk10.cell (i := 1) rfl
  have hk10l := hk10.lt
  have hk12c0 := hk12.cell (i := 0) rfl
  have hk12c1 := hk12.cell (i := 1) rfl
  have hk12l := hk12.lt
  have hk4c0 := hk4.cell (i := 0) rfl
  have hk4c1 := hk4.cell (i := 1) rfl
  have hk4l := hk4.lt
  have hk5c0 := hk5.cell (i := 0) rfl
  have hk5c1 := hk5.cell (i := 1) rfl
  have hk5l := hk5.lt
  have hk6c0 := hk6.cell (i := 0) rfl
  have hk6c1 := hk6.cell (i := 1) rfl
  have hk6l := hk6.lt
  have hk4f0 := hk4.frozen 0
  have hk4f1 := hk4.frozen 1
  have hk5f0 := hk5.frozen 0
  have hk5f1 := hk5.frozen 1
  have hk6f0 := hk6.frozen 0
  have hk6f1 := hk6.frozen 1
  go_region
  clear hk8c0 hk8c1 hk8l hk10c0 hk10c1 hk10l hk12c0 hk12c1 hk12l hk4c0 hk4c1 hk4l hk5c0 hk5c1 hk5l hk6c0 hk6c1 hk6l hk4f0 hk4f1 hk5f0 hk5f1 hk6f0 hk6f1
  obtain ⟨ws13, hws13⟩ : ∃ x, x = ((wa12.setCell ⟨(w.heap.size + 1 + 1), 0, none⟩ (.bool s_5)).setCell ⟨(w.heap.size + 1 + 1), 1, none⟩ (.slice A_5 n_5 c_5)) := ⟨_, rfl⟩
  have h_5' := h_5.st2 hk4 (noU2 _ _ _ _) (.bool s_5) (.slice A_5 n_5 c_5)
  have h_8' := h_8.st2 hk4 (noU2 _ _ _ _) (.bool s_5) (.slice A_5 n_5 c_5)
  have h_11' := h_11.st2 hk4 (noU2 _ _ _ _) (.bool s_5) (.slice A_5 n_5 c_5)
  rw [← hws13] at h_5'
  clear h_5
  have h_5 := h_5'
  clear h_5'
  rw [← hws13] at h_8'
  clear h_8
  have h_8 := h_8'
  clear h_8'
  rw [← hws13] at h_11'
  clear h_11
  have h_11 := h_11'
  clear h_11'
  replace hk5 := hk5.far2 (g' := (w.heap.size + 1 + 1)) (by omega) (.bool s_5) (.slice A_5 n_5 c_5)
  rw [← hws13] at hk5
  replace hk6 := hk6.far2 (g' := (w.heap.size + 1 + 1)) (by omega) (.bool s_5) (.slice A_5 n_5 c_5)
  rw [← hws13] at hk6
  replace hupw := hupw.two (g := (w.heap.size + 1 + 1)) (by omega) (.bool s_5) (.slice A_5 n_5 c_5)
  rw [← hws13] at hupw
  replace hk4 := hk4.two_bk (.bool s_5) (.slice A_5 n_5 c_5)
  rw [← hws13] at hk4
  have hszws13 : ws13.heap.size = wa12.heap.size := by rw [hws13]; simp
  rw [← hws13]
  clear hws13
  obtain ⟨ws14, hws14⟩ : ∃ x, x = ((ws13.setCell ⟨(w.heap.size + 1 + 1 + 1), 0, none⟩ (.bool s_8)).setCell ⟨(w.heap.size + 1 + 1 + 1), 1, none⟩ (.slice A_8 n_8 c_8)) := ⟨_, rfl⟩
  have h_5' := h_5.st2 hk5 (noU2 _ _ _ _) (.bool s_8) (.slice A_8 n_8 c_8)
  have h_8' := h_8.st2 hk5 (noU2 _ _ _ _) (.bool s_8) (.slice A_8 n_8 c_8)
  have h_11' := h_11.st2 hk5 (noU2 _ _ _ _) (.bool s_8) (.slice A_8 n_8 c_8)
  rw [← hws14] at h_5'
  clear h_5
  have h_5 := h_5'
  clear h_5'
  rw [← hws14] at h_8'
  clear h_8
  have h_8 := h_8'
  clear h_8'
  rw [← hws14] at h_11'
  clear h_11
  have h_11 := h_11'
  clear h_11'
  replace hk4 := hk4.far2 (g' := (w.heap.size + 1 + 1 + 1)) (by omega) (.bool s_8) (.slice A_8 n_8 c_8)
  rw [← hws14] at hk4
  replace hk6 := hk6.far2 (g' := (w.heap.size + 1 + 1 + 1)) (by omega) (.bool s_8) (.slice A_8 n_8 c_8)
  rw [← hws14] at hk6
  replace hupw := hupw.two (g := (w.heap.size + 1 + 1 + 1)) (by omega) (.bool s_8) (.slice A_8 n_8 c_8)
  rw [← hws14] at hupw
  replace hk5 := hk5.two_bk (.bool s_8) (.slice A_8 n_8 c_8)
  rw [← hws14] at hk5
  have hszws14 : ws14.heap.size = wa12.heap.size := by rw [hws14]; simp [hszws13]
  rw [← hws14]
  clear hws14
  obtain ⟨ws15, hws15⟩ : ∃ x, x = ((ws14.setCell ⟨(w.heap.size + 1 + 1 + 1 + 1), 0, none⟩ (.bool s_11)).setCell ⟨(w.heap.size + 1 + 1 + 1 + 1), 1, none⟩ (.slice A_11 n_11 c_11)) := ⟨_, rfl⟩
  have h_5' := h_5.st2 hk6 (noU2 _ _ _ _) (.bool s_11) (.slice A_11 n_11 c_11)
  have h_8' := h_8.st2 hk6 (noU2 _ _ _ _) (.bool s_11) (.slice A_11 n_11 c_11)
  have h_11' := h_11.st2 hk6 (noU2 _ _ _ _) (.bool s_11) (.slice A_11 n_11 c_11)
  rw [← hws15] at h_5'
  clear h_5
  have h_5 := h_5'
  clear h_5'
  rw [← hws15] at h_8'
  clear h_8
  have h_8 := h_8'
  clear h_8'
  rw [← hws15] at h_11'
  clear h_11
  have h_11 := h_11'
  clear h_11'
  replace hk4 := hk4.far2 (g' := (w.heap.size + 1 + 1 + 1 + 1)) (by omega) (.bool s_11) (.slice A_11 n_11 c_11)
  rw [← hws15] at hk4
  replace hk5 := hk5.far2 (g' := (w.heap.size + 1 + 1 + 1 + 1)) (by omega) (.bool s_11) (.slice A_11 n_11 c_11)
  rw [← hws15] at hk5
  replace hupw := hupw.two (g := (w.heap.size + 1 + 1 + 1 + 1)) (by omega) (.bool s_11) (.slice A_11 n_11 c_11)
  rw [← hws15] at hupw
  replace hk6 := hk6.two_bk (.bool s_11) (.slice A_11 n_11 c_11)
  rw [← hws15] at hk6
  have hszws15 : ws15.heap.size = wa12.heap.size := by rw [hws15]; simp [hszws14]
  rw [← hws15]
  clear hws15
  clear hszws13 hszws14 hszws15
  obtain ⟨wr16, hwr16⟩ : ∃ x, x = ws15.drew := ⟨_, rfl⟩
  have hup : Up ws15 wr16 := by rw [hwr16]; exact (Up.refl ws15).drew
  replace hk4 := hk4.up hup
  replace hk5 := hk5.up hup
  replace hk6 := hk6.up hup
  replace h_5 := h_5.up hup
  replace h_8 := h_8.up hup
  replace h_11 := h_11.up hup
  replace hupw := hupw.trans hup
  clear hup
  rw [← hwr16]
  clear hwr16
  go_wp2_with fail
  have hk4c0 := hk4.cell (i := 0) rfl
  have hk4c1 := hk4.cell (i := 1) rfl
  have hk5c0 := hk5.cell (i := 0) rfl
  have hk5c1 := hk5.cell (i := 1) rfl
  have hk6c0 := hk6.cell (i := 0) rfl
  have hk6c1 := hk6.cell (i := 1) rfl
  exact bodyPost_ret (v := .tuple #[.agg #[.bool s_5, .slice A_5 n_5 c_5], .agg #[.bool s_8, .slice A_8 n_8 c_8], .agg #[.bool s_11, .slice A_11 n_11 c_11], .int .i64 0]) (by simp [results, Tryz.results74, go_sem, hk4c0, hk4c1, hk5c0, hk5c1, hk6c0, hk6c1]) rfl ⟨_, _, _, rfl, h_5, h_8, h_11, hupw⟩
/-- The third product, if it is not too large. -/
def den0 (a b : Rat) : Int := if okB (dn a * dn b) then dn a * dn b else 0
theorem crossQ {w : World} {v v' : Value} {a b : Rat} (h : Rz w v a) (h' : Rz w v' b) (hc : crossB a b = true) : Calls Tryz.prog 74 #[v, v'] w (PIIIE w (nm a * dn b) (nm b * dn a) (den0 a b) 0) := by
  unfold crossB at hc
  simp only [Bool.and_eq_true] at hc
  unfold den0
  cases hd : okB (dn a * dn b) with
  | false => exact cross_3 v v' w h h' hc.1 hc.2 hd
  | true => exact cross_4 v v' w h h' hc.1 hc.2 hd
theorem crossNQ {w : World} {v v' : Value} {a b : Rat} (h : Rz w v a) (h' : Rz w v' b) (hc : crossB a b = false) : Calls Tryz.prog 74 #[v, v'] w (PIIIE w 0 0 (bnd (dn a * dn b)) 3) := by
  unfold crossB at hc
  cases hx : okB (nm a * dn b) with
  | false => exact cross_1 v v' w h h' hx
  | true => rw [hx] at hc; exact cross_2 v v' w h h' hx hc
set_option maxRecDepth 100000 in
set_option maxHeartbeats 4000000 in
theorem rsuma_1 {a b : Rat} (v0 v1 : Value) (w : World) (f0 : Fz w v0 (nm a) (dn a)) (f1 : Fz w v1 (nm b) (dn b)) (hc : crossB a b = false) :
    Calls Tryz.prog 72 #[v0, v1, .bool false] w (PFE w 0 0 3) := by
  obtain ⟨s0, A0, n0, c0, t0, B0, m0, d0, rfl, h0, k0⟩ := f0
  obtain ⟨s1, A1, n1, c1, t1, B1, m1, d1, rfl, h1, k1⟩ := f1
  have hupw : Up w w := Up.refl w
  go_enter Tryz.func72, Tryz.ntmps72
  go_wp2_with fail
  obtain ⟨wa1, hwa1⟩ : ∃ x, x = (((w.alloc (.cells #[.bool s0, .slice A0 n0 c0, .bool t0, .slice B0 m0 d0] 29)).alloc (.cells #[.bool s1, .slice A1 n1 c1, .bool t1, .slice B1 m1 d1] 29)).alloc (.cells #[.bool false, .slice none 0 0, .bool false, .slice none 0 0] 29)) := ⟨_, rfl⟩
  have hup : Up w wa1 := by rw [hwa1]; exact ((((Up.refl w).alloc _).alloc _).alloc _)
  have hzwa1 : w.heap.size ≤ w.heap.size := hupw.size
  replace h0 := h0.up hup
  replace k0 := k0.up hup
  replace h1 := h1.up hup
  replace k1 := k1.up hup
  replace hupw := hupw.trans hup
  clear hup
  have hk3 : Bk wa1 (w.heap.size) 29 #[.bool s0, .slice A0 n0 c0, .bool t0, .slice B0 m0 d0] := by
    have := (((Bk.new w 29 #[.bool s0, .slice A0 n0 c0, .bool t0, .slice B0 m0 d0]).alloc (.cells #[.bool s1, .slice A1 n1 c1, .bool t1, .slice B1 m1 d1] 29)).alloc (.cells #[.bool false, .slice none 0 0, .bool false, .slice none 0 0] 29))
    rw [hwa1]; simpa using this
  have hk4 : Bk wa1 (w.heap.size + 1) 29 #[.bool s1, .slice A1 n1 c1, .bool t1, .slice B1 m1 d1] := by
    have := ((Bk.new (w.alloc (.cells #[.bool s0, .slice A0 n0 c0, .bool t0, .slice B0 m0 d0] 29)) 29 #[.bool s1, .slice A1 n1 c1, .bool t1, .slice B1 m1 d1]).alloc (.cells #[.bool false, .slice none 0 0, .bool false, .slice none 0 0] 29))
    rw [hwa1]; simpa using this
  have hk6 : Bk wa1 (w.heap.size + 1 + 1) 29 #[.bool false, .slice none 0 0, .bool false, .slice none 0 0] := by
    have := (Bk.new ((w.alloc (.cells #[.bool s0, .slice A0 n0 c0, .bool t0, .slice B0 m0 d0] 29)).alloc (.cells #[.bool s1, .slice A1 n1 c1, .bool t1, .slice B1 m1 d1] 29)) 29 #[.bool false, .slice none 0 0, .bool false, .slice none 0 0])
    rw [hwa1]; simpa using this
  rw [← hwa1]
  clear hwa1
  refine (crossNQ (Fz.mk h0 k0) (Fz.mk h1 k1) hc).mono ?_
  rintro e w2 ⟨v_3, v_4, v_5, rfl, h_3, h_4, h_5, hup⟩
  replace hk6 := hk6.up hup
  replace hupw := hupw.trans hup
  clear hup
  obtain ⟨s_3, A_3, n_3, c_3, rfl⟩ := h_3.agg
  obtain ⟨s_4, A_4, n_4, c_4, rfl⟩ := h_4.agg
  obtain ⟨s_5, A_5, n_5, c_5, rfl⟩ := h_5.agg
  have hk6c0 := hk6.cell (i := 0) rfl
  have hk6c1 := hk6.cell (i := 1) rfl
  have hk6c2 := hk6.cell (i := 2) rfl
  have hk6c3 := hk6.cell (i := 3) rfl
  have hk6l := hk6.lt
  have hk6f0 := hk6.frozen 0
  have hk6f1 := hk6.frozen 1
  have hk6f2 := hk6.frozen 2
  have hk6f3 := hk6.frozen 3
  have hk6l1 : (w.heap.size + 1 + 1) < w2.heap.size + 1 := by omega
  have hk6l2 : (w.heap.size + 1 + 1) < w2.heap.size + 1 + 1 := by omega
  go_wp2_with fail
  clear hk6c0 hk6c1 hk6c2 hk6c3 hk6l hk6f0 hk6f1 hk6f2 hk6f3 hk6l1 hk6l2
  obtain ⟨ws6, hws6⟩ : ∃ x, x = (st4 w2 (w.heap.size + 1 + 1) (.bool false) (.slice none 0 0) (.bool false) (.slice none 0 0)) := ⟨_, rfl⟩
  replace hupw := hupw.st4 (g := (w.heap.size + 1 + 1)) (by omega) (.bool false) (.slice none 0 0) (.bool false) (.slice none 0 0)
  rw [← hws6] at hupw
  replace hk6 := hk6.four (.bool false) (.slice none 0 0) (.bool false) (.slice none 0 0)
  rw [← hws6] at hk6
  have hszws6 : ws6.heap.size = w2.heap.size := by rw [hws6]; simp [st4]
  unfold st4 at hws6
  rw [← hws6]
  clear hws6
  obtain ⟨wa7, hwa7⟩ : ∃ x, x = (((ws6.alloc (.cells #[.bool s_3, .slice A_3 n_3 c_3] 24)).alloc (.cells #[.bool s_4, .slice A_4 n_4 c_4] 24)).alloc (.cells #[.bool s_5, .slice A_5 n_5 c_5] 24)) := ⟨_, rfl⟩
  have hup : Up ws6 wa7 := by rw [hwa7]; exact ((((Up.refl ws6).alloc _).alloc _).alloc _)
  have howa7 : (w.heap.size + 1 + 1) < w2.heap.size := by have := hk6.lt; omega
  have hzwa7 : w.heap.size ≤ w2.heap.size := by have := hupw.size; omega
  replace hk6 := hk6.up hup
  replace hupw := hupw.trans hup
  clear hup
  have hk8 : Bk wa7 (w2.heap.size) 24 #[.bool s_3, .slice A_3 n_3 c_3] := by
    have := (((Bk.new ws6 24 #[.bool s_3, .slice A_3 n_3 c_3]).alloc (.cells #[.bool s_4, .slice A_4 n_4 c_4] 24)).alloc (.cells #[.bool s_5, .slice A_5 n_5 c_5] 24))
    rw [hwa7]; simpa [hszws6] using this
  have hk9 : Bk wa7 (w2.heap.size + 1) 24 #[.bool s_4, .slice A_4 n_4 c_4] := by
    have := ((Bk.new (ws6.alloc (.cells #[.bool s_3, .slice A_3 n_3 c_3] 24)) 24 #[.bool s_4, .slice A_4 n_4 c_4]).alloc (.cells #[.bool s_5, .slice A_5 n_5 c_5] 24))
    rw [hwa7]; simpa [hszws6] using this
  have hk10 : Bk wa7 (w2.heap.size + 1 + 1) 24 #[.bool s_5, .slice A_5 n_5 c_5] := by
    have := (Bk.new ((ws6.alloc (.cells #[.bool s_3, .slice A_3 n_3 c_3] 24)).alloc (.cells #[.bool s_4, .slice A_4 n_4 c_4] 24)) 24 #[.bool s_5, .slice A_5 n_5 c_5])
    rw [hwa7]; simpa [hszws6] using this
  rw [← hwa7]
  clear hwa7
  clear hszws6
  have hk6c0 := hk6.cell (i := 0) rfl
  have hk6c1 := hk6.cell (i := 1) rfl
  have hk6c2 := hk6.cell (i := 2) rfl
  have hk6c3 := hk6.cell (i := 3) rfl
  exact bodyPost_ret (v := .tuple #[.agg #[.bool false, .slice none 0 0, .bool false, .slice none 0 0], .int .i64 3]) (by simp [results, Tryz.results72, go_sem, hk6c0, hk6c1, hk6c2, hk6c3]) rfl ⟨_, rfl, Fz.mk (Iz.zero _) (Iz.zero _), hupw⟩
set_option maxRecDepth 100000 in
set_option maxHeartbeats 4000000 in
theorem rsuma_2 {a b : Rat} (v0 v1 : Value) (w : World) (f0 : Fz w v0 (nm a) (dn a)) (f1 : Fz w v1 (nm b) (dn b)) (hc : crossB a b = true) (hz : okB (nm a * dn b + nm b * dn a) = false) :
    Calls Tryz.prog 72 #[v0, v1, .bool false] w (PFE w 0 0 3) := by
  obtain ⟨s0, A0, n0, c0, t0, B0, m0, d0, rfl, h0, k0⟩ := f0
  obtain ⟨s1, A1, n1, c1, t1, B1, m1, d1, rfl, h1, k1⟩ := f1
  have hupw : Up w w := Up.refl w
  go_enter Tryz.func72, Tryz.ntmps72
  go_wp2_with fail
  obtain ⟨wa1, hwa1⟩ : ∃ x, x = (((w.alloc (.cells #[.bool s0, .slice A0 n0 c0, .bool t0, .slice B0 m0 d0] 29)).alloc (.cells #[.bool s1, .slice A1 n1 c1, .bool t1, .slice B1 m1 d1] 29)).alloc (.cells #[.bool false, .slice none 0 0, .bool false, .slice none 0 0] 29)) := ⟨_, rfl⟩
  have hup : Up w wa1 := by rw [hwa1]; exact ((((Up.refl w).alloc _).alloc _).alloc _)
  have hzwa1 : w.heap.size ≤ w.heap.size := hupw.size
  replace h0 := h0.up hup
  replace k0 := k0.up hup
  replace h1 := h1.up hup
  replace k1 := k1.up hup
  replace hupw := hupw.trans hup
  clear hup
  have hk3 : Bk wa1 (w.heap.size) 29 #[.bool s0, .slice A0 n0 c0, .bool t0, .slice B0 m0 d0] := by
    have := (((Bk.new w 29 #[.bool s0, .slice A0 n0 c0, .bool t0, .slice B0 m0 d0]).alloc (.cells #[.bool s1, .slice A1 n1 c1, .bool t1, .slice B1 m1 d1] 29)).alloc (.cells #[.bool false, .slice none 0 0, .bool false, .slice none 0 0] 29))
    rw [hwa1]; simpa using this
  have hk4 : Bk wa1 (w.heap.size + 1) 29 #[.bool s1, .slice A1 n1 c1, .bool t1, .slice B1 m1 d1] := by
    have := ((Bk.new (w.alloc (.cells #[.bool s0, .slice A0 n0 c0, .bool t0, .slice B0 m0 d0] 29)) 29 #[.bool s1, .slice A1 n1 c1, .bool t1, .slice B1 m1 d1]).alloc (.cells #[.bool false, .slice none 0 0, .bool false, .slice none 0 0] 29))
    rw [hwa1]; simpa using this
  have hk6 : Bk wa1 (w.heap.size + 1 + 1) 29 #[.bool false, .slice none 0 0, .bool false, .slice none 0 0] := by
    have := (Bk.new ((w.alloc (.cells #[.bool s0, .slice A0 n0 c0, .bool t0, .slice B0 m0 d0] 29)).alloc (.cells #[.bool s1, .slice A1 n1 c1, .bool t1, .slice B1 m1 d1] 29)) 29 #[.bool false, .slice none 0 0, .bool false, .slice none 0 0])
    rw [hwa1]; simpa using this
  rw [← hwa1]
  clear hwa1
  refine (crossQ (Fz.mk h0 k0) (Fz.mk h1 k1) hc).mono ?_
  rintro e w2 ⟨v_3, v_4, v_5, rfl, h_3, h_4, h_5, hup⟩
  replace hk6 := hk6.up hup
  replace hupw := hupw.trans hup
  clear hup
  obtain ⟨s_3, A_3, n_3, c_3, rfl⟩ := h_3.agg
  obtain ⟨s_4, A_4, n_4, c_4, rfl⟩ := h_4.agg
  obtain ⟨s_5, A_5, n_5, c_5, rfl⟩ := h_5.agg
  go_wp2_with fail
  obtain ⟨wa6, hwa6⟩ : ∃ x, x = (((w2.alloc (.cells #[.bool s_3, .slice A_3 n_3 c_3] 24)).alloc (.cells #[.bool s_4, .slice A_4 n_4 c_4] 24)).alloc (.cells #[.bool s_5, .slice A_5 n_5 c_5] 24)) := ⟨_, rfl⟩
  have hup : Up w2 wa6 := by rw [hwa6]; exact ((((Up.refl w2).alloc _).alloc _).alloc _)
  have howa6 : (w.heap.size + 1 + 1) < w2.heap.size := hk6.lt
  have hzwa6 : w.heap.size ≤ w2.heap.size := hupw.size
  replace hk6 := hk6.up hup
  replace h_3 := h_3.up hup
  replace h_4 := h_4.up hup
  replace hupw := hupw.trans hup
  clear hup
  have hk8 : Bk wa6 (w2.heap.size) 24 #[.bool s_3, .slice A_3 n_3 c_3] := by
    have := (((Bk.new w2 24 #[.bool s_3, .slice A_3 n_3 c_3]).alloc (.cells #[.bool s_4, .slice A_4 n_4 c_4] 24)).alloc (.cells #[.bool s_5, .slice A_5 n_5 c_5] 24))
    rw [hwa6]; simpa using this
  have hk9 : Bk wa6 (w2.heap.size + 1) 24 #[.bool s_4, .slice A_4 n_4 c_4] := by
    have := ((Bk.new (w2.alloc (.cells #[.bool s_3, .slice A_3 n_3 c_3] 24)) 24 #[.bool s_4, .slice A_4 n_4 c_4]).alloc (.cells #[.bool s_5, .slice A_5 n_5 c_5] 24))
    rw [hwa6]; simpa using this
  have hk10 : Bk wa6 (w2.heap.size + 1 + 1) 24 #[.bool s_5, .slice A_5 n_5 c_5] := by
    have := (Bk.new ((w2.alloc (.cells #[.bool s_3, .slice A_3 n_3 c_3] 24)).alloc (.cells #[.bool s_4, .slice A_4 n_4 c_4] 24)) 24 #[.bool s_5, .slice A_5 n_5 c_5])
    rw [hwa6]; simpa using this
  rw [← hwa6]
  clear hwa6
  refine (raddN h_3 h_4 hz).mono ?_
  rintro e w7 ⟨v_8, rfl, h_8, hup⟩
  replace hk6 := hk6.up hup
  replace hk10 := hk10.up hup
  replace hupw := hupw.trans hup
  clear hup
  obtain ⟨s_8, A_8, n_8, c_8, rfl⟩ := h_8.agg
  have hk6c0 := hk6.cell (i := 0) rfl
  have hk6c1 := hk6.cell (i := 1) rfl
  have hk6c2 := hk6.cell (i := 2) rfl
  have hk6c3 := hk6.cell (i := 3) rfl
  have hk6l := hk6.lt
  have hk6f0 := hk6.frozen 0
  have hk6f1 := hk6.frozen 1
  have hk6f2 := hk6.frozen 2
  have hk6f3 := hk6.frozen 3
  go_wp2_with fail
  clear hk6c0 hk6c1 hk6c2 hk6c3 hk6l hk6f0 hk6f1 hk6f2 hk6f3
  obtain ⟨ws9, hws9⟩ : ∃ x, x = (st4 w7 (w.heap.size + 1 + 1) (.bool false) (.slice none 0 0) (.bool false) (.slice none 0 0)) := ⟨_, rfl⟩
  replace hk10 := hk10.far4 (g' := (w.heap.size + 1 + 1)) (by omega) (.bool false) (.slice none 0 0) (.bool false) (.slice none 0 0)
  rw [← hws9] at hk10
  replace hupw := hupw.st4 (g := (w.heap.size + 1 + 1)) (by omega) (.bool false) (.slice none 0 0) (.bool false) (.slice none 0 0)
  rw [← hws9] at hupw
  replace hk6 := hk6.four (.bool false) (.slice none 0 0) (.bool false) (.slice none 0 0)
  rw [← hws9] at hk6
  have hszws9 : ws9.heap.size = w7.heap.size := by rw [hws9]; simp [st4]
  unfold st4 at hws9
  rw [← hws9]
  clear hws9
  obtain ⟨wa10, hwa10⟩ : ∃ x, x = (ws9.alloc (.cells #[.bool s_8, .slice A_8 n_8 c_8] 24)) := ⟨_, rfl⟩
  have hup : Up ws9 wa10 := by rw [hwa10]; exact ((Up.refl ws9).alloc _)
  have howa10 : (w2.heap.size + 1 + 1) < w7.heap.size := by have := hk10.lt; omega
  have hzwa10 : w.heap.size ≤ w7.heap.size := by have := hupw.size; omega
  replace hk6 := hk6.up hup
  replace hupw := hupw.trans hup
  clear hup
  have hk12 : Bk wa10 (w7.heap.size) 24 #[.bool s_8, .slice A_8 n_8 c_8] := by
    have := (Bk.new ws9 24 #[.bool s_8, .slice A_8 n_8 c_8])
    rw [hwa10]; simpa [hszws9] using this
  rw [← hwa10]
  clear hwa10
  clear hszws9
  have hk6c0 := hk6.cell (i := 0) rfl
  have hk6c1 := hk6.cell (i := 1) rfl
  have hk6c2 := hk6.cell (i := 2) rfl
  have hk6c3 := hk6.cell (i := 3) rfl
  exact bodyPost_ret (v := .tuple #[.agg #[.bool false, .slice none 0 0, .bool false, .slice none 0 0], .int .i64 3]) (by simp [results, Tryz.results72, go_sem, hk6c0, hk6c1, hk6c2, hk6c3]) rfl ⟨_, rfl, Fz.mk (Iz.zero _) (Iz.zero _), hupw⟩
set_option maxRecDepth 100000 in
set_option maxHeartbeats 4000000 in
theorem rsuma_3 {a b : Rat} (v0 v1 : Value) (w : World) (f0 : Fz w v0 (nm a) (dn a)) (f1 : Fz w v1 (nm b) (dn b)) (hc : crossB a b = true) (hz : okB (nm a * dn b + nm b * dn a) = true) (hd : okB (dn a * dn b) = false) :
    Calls Tryz.prog 72 #[v0, v1, .bool false] w (PFE w 0 0 3) := by
  obtain ⟨s0, A0, n0, c0, t0, B0, m0, d0, rfl, h0, k0⟩ := f0
  obtain ⟨s1, A1, n1, c1, t1, B1, m1, d1, rfl, h1, k1⟩ := f1
  have hupw : Up w w := Up.refl w
  go_enter Tryz.func72, Tryz.ntmps72
  go_wp2_with fail
  obtain ⟨wa1, hwa1⟩ : ∃ x, x = (((w.alloc (.cells #[.bool s0, .slice A0 n0 c0, .bool t0, .slice B0 m0 d0] 29)).alloc (.cells #[.bool s1, .slice A1 n1 c1, .bool t1, .slice B1 m1 d1] 29)).alloc (.cells #[.bool false, .slice none 0 0, .bool false, .slice none 0 0] 29)) := ⟨_, rfl⟩
  have hup : Up w wa1 := by rw [hwa1]; exact ((((Up.refl w).alloc _).alloc _).alloc _)
  have hzwa1 : w.heap.size ≤ w.heap.size := hupw.size
  replace h0 := h0.up hup
  replace k0 := k0.up hup
  replace h1 := h1.up hup
  replace k1 := k1.up hup
  replace hupw := hupw.trans hup
  clear hup
  have hk3 : Bk wa1 (w.heap.size) 29 #[.bool s0, .slice A0 n0 c0, .bool t0, .slice B0 m0 d0] := by
    have := (((Bk.new w 29 #[.bool s0, .slice A0 n0 c0, .bool t0, .slice B0 m0 d0]).alloc (.cells #[.bool s1, .slice A1 n1 c1, .bool t1, .slice B1 m1 d1] 29)).alloc (.cells #[.bool false, .slice none 0 0, .bool false, .slice none 0 0] 29))
    rw [hwa1]; simpa using this
  have hk4 : Bk wa1 (w.heap.size + 1) 29 #[.bool s1, .slice A1 n1 c1, .bool t1, .slice B1 m1 d1] := by
    have := ((Bk.new (w.alloc (.cells #[.bool s0, .slice A0 n0 c0, .bool t0, .slice B0 m0 d0] 29)) 29 #[.bool s1, .slice A1 n1 c1, .bool t1, .slice B1 m1 d1]).alloc (.cells #[.bool false, .slice none 0 0, .bool false, .slice none 0 0] 29))
    rw [hwa1]; simpa using this
  have hk6 : Bk wa1 (w.heap.size + 1 + 1) 29 #[.bool false, .slice none 0 0, .bool false, .slice none 0 0] := by
    have := (Bk.new ((w.alloc (.cells #[.bool s0, .slice A0 n0 c0, .bool t0, .slice B0 m0 d0] 29)).alloc (.cells #[.bool s1, .slice A1 n1 c1, .bool t1, .slice B1 m1 d1] 29)) 29 #[.bool false, .slice none 0 0, .bool false, .slice none 0 0])
    rw [hwa1]; simpa using this
  rw [← hwa1]
  clear hwa1
  refine (crossQ (Fz.mk h0 k0) (Fz.mk h1 k1) hc).mono ?_
  rintro e w2 ⟨v_3, v_4, v_5, rfl, h_3, h_4, h_5, hup⟩
  replace hk6 := hk6.up hup
  replace hupw := hupw.trans hup
  clear hup
  obtain ⟨s_3, A_3, n_3, c_3, rfl⟩ := h_3.agg
  obtain ⟨s_4, A_4, n_4, c_4, rfl⟩ := h_4.agg
  obtain ⟨s_5, A_5, n_5, c_5, rfl⟩ := h_5.agg
  go_wp2_with fail
  obtain ⟨wa6, hwa6⟩ : ∃ x, x = (((w2.alloc (.cells #[.bool s_3, .slice A_3 n_3 c_3] 24)).alloc (.cells #[.bool s_4, .slice A_4 n_4 c_4] 24)).alloc (.cells #[.bool s_5, .slice A_5 n_5 c_5] 24)) := ⟨_, rfl⟩
  have hup : Up w2 wa6 := by rw [hwa6]; exact ((((Up.refl w2).alloc _).alloc _).alloc _)
  have howa6 : (w.heap.size + 1 + 1) < w2.heap.size := hk6.lt
  have hzwa6 : w.heap.size ≤ w2.heap.size := hupw.size
  replace hk6 := hk6.up hup
  replace h_3 := h_3.up hup
  replace h_4 := h_4.up hup
  replace h_5 := h_5.up hup
  replace hupw := hupw.trans hup
  clear hup
  have hk8 : Bk wa6 (w2.heap.size) 24 #[.bool s_3, .slice A_3 n_3 c_3] := by
    have := (((Bk.new w2 24 #[.bool s_3, .slice A_3 n_3 c_3]).alloc (.cells #[.bool s_4, .slice A_4 n_4 c_4] 24)).alloc (.cells #[.bool s_5, .slice A_5 n_5 c_5] 24))
    rw [hwa6]; simpa using this
  have hk9 : Bk wa6 (w2.heap.size + 1) 24 #[.bool s_4, .slice A_4 n_4 c_4] := by
    have := ((Bk.new (w2.alloc (.cells #[.bool s_3, .slice A_3 n_3 c_3] 24)) 24 #[.bool s_4, .slice A_4 n_4 c_4]).alloc (.cells #[.bool s_5, .slice A_5 n_5 c_5] 24))
    rw [hwa6]; simpa using this
  have hk10 : Bk wa6 (w2.heap.size + 1 + 1) 24 #[.bool s_5, .slice A_5 n_5 c_5] := by
    have := (Bk.new ((w2.alloc (.cells #[.bool s_3, .slice A_3 n_3 c_3] 24)).alloc (.cells #[.bool s_4, .slice A_4 n_4 c_4] 24)) 24 #[.bool s_5, .slice A_5 n_5 c_5])
    rw [hwa6]; simpa using this
  rw [← hwa6]
  clear hwa6
  refine (raddQ h_3 h_4 hz).mono ?_
  rintro e w7 ⟨v_8, rfl, h_8, hup⟩
  replace hk6 := hk6.up hup
  replace hk10 := hk10.up hup
  replace h_5 := h_5.up hup
  replace hupw := hupw.trans hup
  clear hup
  obtain ⟨s_8, A_8, n_8, c_8, rfl⟩ := h_8.agg
  have hk10c0 := hk10.cell (i := 0) rfl
  have hk10c1 := hk10.cell (i := 1) rfl
  have hk10l := hk10.lt
  go_wp2_with fail
  clear hk10c0 hk10c1 hk10l
  obtain ⟨wa9, hwa9⟩ : ∃ x, x = (w7.alloc (.cells #[.bool s_8, .slice A_8 n_8 c_8] 24)) := ⟨_, rfl⟩
  have hup : Up w7 wa9 := by rw [hwa9]; exact ((Up.refl w7).alloc _)
  have howa9 : (w2.heap.size + 1 + 1) < w7.heap.size := hk10.lt
  have hzwa9 : w.heap.size ≤ w7.heap.size := hupw.size
  replace hk6 := hk6.up hup
  replace h_5 := h_5.up hup
  replace hupw := hupw.trans hup
  clear hup
  have hk12 : Bk wa9 (w7.heap.size) 24 #[.bool s_8, .slice A_8 n_8 c_8] := by
    have := (Bk.new w7 24 #[.bool s_8, .slice A_8 n_8 c_8])
    rw [hwa9]; simpa using this
  rw [← hwa9]
  clear hwa9
  refine (rsignQ 0 h_5 (by unfold den0; rw [hd]; rfl)).mono ?_
  rintro e w10 ⟨rfl, hup⟩
  replace hk6 := hk6.up hup
  replace hupw := hupw.trans hup
  clear hup
  have hk6c0 := hk6.cell (i := 0) rfl
  have hk6c1 := hk6.cell (i := 1) rfl
  have hk6c2 := hk6.cell (i := 2) rfl
  have hk6c3 := hk6.cell (i := 3) rfl
  have hk6l := hk6.lt
  have hk6f0 := hk6.frozen 0
  have hk6f1 := hk6.frozen 1
  have hk6f2 := hk6.frozen 2
  have hk6f3 := hk6.frozen 3
  go_wp2_with fail
  clear hk6c0 hk6c1 hk6c2 hk6c3 hk6l hk6f0 hk6f1 hk6f2 hk6f3
  obtain ⟨ws11, hws11⟩ : ∃ x, x = (st4 w10 (w.heap.size + 1 + 1) (.bool false) (.slice none 0 0) (.bool false) (.slice none 0 0)) := ⟨_, rfl⟩
  replace hupw := hupw.st4 (g := (w.heap.size + 1 + 1)) (by omega) (.bool false) (.slice none 0 0) (.bool false) (.slice none 0 0)
  rw [← hws11] at hupw
  replace hk6 := hk6.four (.bool false) (.slice none 0 0) (.bool false) (.slice none 0 0)
  rw [← hws11] at hk6
  have hszws11 : ws11.heap.size = w10.heap.size := by rw [hws11]; simp [st4]
  unfold st4 at hws11
  rw [← hws11]
  clear hws11
  clear hszws11
  have hk6c0 := hk6.cell (i := 0) rfl
  have hk6c1 := hk6.cell (i := 1) rfl
  have hk6c2 := hk6.cell (i := 2) rfl
  have hk6c3 := hk6.cell (i := 3) rfl
  exact bodyPost_ret (v := .tuple #[.agg #[.bool false, .slice none 0 0, .bool false, .slice none 0 0], .int .i64 3]) (by simp [results, Tryz.results72, go_sem, hk6c0, hk6c1, hk6c2, hk6c3]) rfl ⟨_, rfl, Fz.mk (Iz.zero _) (Iz.zero _), hupw⟩
set_option maxRecDepth 100000 in
set_option maxHeartbeats 4000000 in
theorem rsuma_4 {a b : Rat} (v0 v1 : Value) (w : World) (f0 : Fz w v0 (nm a) (dn a)) (f1 : Fz w v1 (nm b) (dn b)) (hc : crossB a b = true) (hz : okB (nm a * dn b + nm b * dn a) = true) (hd : okB (dn a * dn b) = true) :
    Calls Tryz.prog 72 #[v0, v1, .bool false] w (PR w (makeR (nm a * dn b + nm b * dn a) (den0 a b))) := by
  obtain ⟨s0, A0, n0, c0, t0, B0, m0, d0, rfl, h0, k0⟩ := f0
  obtain ⟨s1, A1, n1, c1, t1, B1, m1, d1, rfl, h1, k1⟩ := f1
  have hupw : Up w w := Up.refl w
  go_enter Tryz.func72, Tryz.ntmps72
  go_wp2_with fail
  obtain ⟨wa1, hwa1⟩ : ∃ x, x = (((w.alloc (.cells #[.bool s0, .slice A0 n0 c0, .bool t0, .slice B0 m0 d0] 29)).alloc (.cells #[.bool s1, .slice A1 n1 c1, .bool t1, .slice B1 m1 d1] 29)).alloc (.cells #[.bool false, .slice none 0 0, .bool false, .slice none 0 0] 29)) := ⟨_, rfl⟩
  have hup : Up w wa1 := by rw [hwa1]; exact ((((Up.refl w).alloc _).alloc _).alloc _)
  have hzwa1 : w.heap.size ≤ w.heap.size := hupw.size
  replace h0 := h0.up hup
  replace k0 := k0.up hup
  replace h1 := h1.up hup
  replace k1 := k1.up hup
  replace hupw := hupw.trans hup
  clear hup
  have hk3 : Bk wa1 (w.heap.size) 29 #[.bool s0, .slice A0 n0 c0, .bool t0, .slice B0 m0 d0] := by
    have := (((Bk.new w 29 #[.bool s0, .slice A0 n0 c0, .bool t0, .slice B0 m0 d0]).alloc (.cells #[.bool s1, .slice A1 n1 c1, .bool t1, .slice B1 m1 d1] 29)).alloc (.cells #[.bool false, .slice none 0 0, .bool false, .slice none 0 0] 29))
    rw [hwa1]; simpa using this
  have hk4 : Bk wa1 (w.heap.size + 1) 29 #[.bool s1, .slice A1 n1 c1, .bool t1, .slice B1 m1 d1] := by
    have := ((Bk.new (w.alloc (.cells #[.bool s0, .slice A0 n0 c0, .bool t0, .slice B0 m0 d0] 29)) 29 #[.bool s1, .slice A1 n1 c1, .bool t1, .slice B1 m1 d1]).alloc (.cells #[.bool false, .slice none 0 0, .bool false, .slice none 0 0] 29))
    rw [hwa1]; simpa using this
  have hk6 : Bk wa1 (w.heap.size + 1 + 1) 29 #[.bool false, .slice none 0 0, .bool false, .slice none 0 0] := by
    have := (Bk.new ((w.alloc (.cells #[.bool s0, .slice A0 n0 c0, .bool t0, .slice B0 m0 d0] 29)).alloc (.cells #[.bool s1, .slice A1 n1 c1, .bool t1, .slice B1 m1 d1] 29)) 29 #[.bool false, .slice none 0 0, .bool false, .slice none 0 0])
    rw [hwa1]; simpa using this
  rw [← hwa1]
  clear hwa1
  refine (crossQ (Fz.mk h0 k0) (Fz.mk h1 k1) hc).mono ?_
  rintro e w2 ⟨v_3, v_4, v_5, rfl, h_3, h_4, h_5, hup⟩
  replace hk6 := hk6.up hup
  replace hupw := hupw.trans hup
  clear hup
  obtain ⟨s_3, A_3, n_3, c_3, rfl⟩ := h_3.agg
  obtain ⟨s_4, A_4, n_4, c_4, rfl⟩ := h_4.agg
  obtain ⟨s_5, A_5, n_5, c_5, rfl⟩ := h_5.agg
  go_wp2_with fail
  obtain ⟨wa6, hwa6⟩ : ∃ x, x = (((w2.alloc (.cells #[.bool s_3, .slice A_3 n_3 c_3] 24)).alloc (.cells #[.bool s_4, .slice A_4 n_4 c_4] 24)).alloc (.cells #[.bool s_5, .slice A_5 n_5 c_5] 24)) := ⟨_, rfl⟩
  have hup : Up w2 wa6 := by rw [hwa6]; exact ((((Up.refl w2).alloc _).alloc _).alloc _)
  have howa6 : (w.heap.size + 1 + 1) < w2.heap.size := hk6.lt
  have hzwa6 : w.heap.size ≤ w2.heap.size := hupw.size
  replace hk6 := hk6.up hup
  replace h_3 := h_3.up hup
  replace h_4 := h_4.up hup
  replace h_5 := h_5.up hup
  replace hupw := hupw.trans hup
  clear hup
  have hk8 : Bk wa6 (w2.heap.size) 24 #[.bool s_3, .slice A_3 n_3 c_3] := by
    have := (((Bk.new w2 24 #[.bool s_3, .slice A_3 n_3 c_3]).alloc (.cells #[.bool s_4, .slice A_4 n_4 c_4] 24)).alloc (.cells #[.bool s_5, .slice A_5 n_5 c_5] 24))
    rw [hwa6]; simpa using this
  have hk9 : Bk wa6 (w2.heap.size + 1) 24 #[.bool s_4, .slice A_4 n_4 c_4] := by
    have := ((Bk.new (w2.alloc (.cells #[.bool s_3, .slice A_3 n_3 c_3] 24)) 24 #[.bool s_4, .slice A_4 n_4 c_4]).alloc (.cells #[.bool s_5, .slice A_5 n_5 c_5] 24))
    rw [hwa6]; simpa using this
  have hk10 : Bk wa6 (w2.heap.size + 1 + 1) 24 #[.bool s_5, .slice A_5 n_5 c_5] := by
    have := (Bk.new ((w2.alloc (.cells #[.bool s_3, .slice A_3 n_3 c_3] 24)).alloc (.cells #[.bool s_4, .slice A_4 n_4 c_4] 24)) 24 #[.bool s_5, .slice A_5 n_5 c_5])
    rw [hwa6]; simpa using this
  rw [← hwa6]
  clear hwa6
  refine (raddQ h_3 h_4 hz).mono ?_
  rintro e w7 ⟨v_8, rfl, h_8, hup⟩
  replace hk6 := hk6.up hup
  replace hk10 := hk10.up hup
  replace h_5 := h_5.up hup
  replace hupw := hupw.trans hup
  clear hup
  obtain ⟨s_8, A_8, n_8, c_8, rfl⟩ := h_8.agg
  have hk10c0 := hk10.cell (i := 0) rfl
  have hk10c1 := hk10.cell (i := 1) rfl
  have hk10l := hk10.lt
  go_wp2_with fail
  clear hk10c0 hk10c1 hk10l
  obtain ⟨wa9, hwa9⟩ : ∃ x, x = (w7.alloc (.cells #[.bool s_8, .slice A_8 n_8 c_8] 24)) := ⟨_, rfl⟩
  have hup : Up w7 wa9 := by rw [hwa9]; exact ((Up.refl w7).alloc _)
  have howa9 : (w2.heap.size + 1 + 1) < w7.heap.size := hk10.lt
  have hzwa9 : w.heap.size ≤ w7.heap.size := hupw.size
  replace hk6 := hk6.up hup
  replace hk10 := hk10.up hup
  replace h_5 := h_5.up hup
  replace h_8 := h_8.up hup
  replace hupw := hupw.trans hup
  clear hup
  have hk12 : Bk wa9 (w7.heap.size) 24 #[.bool s_8, .slice A_8 n_8 c_8] := by
    have := (Bk.new w7 24 #[.bool s_8, .slice A_8 n_8 c_8])
    rw [hwa9]; simpa using this
  rw [← hwa9]
  clear hwa9
  refine (rsignQ 1 h_5 (by unfold den0; rw [hd]; exact Int.sign_eq_one_of_pos (Int.mul_pos (dn_pos a) (dn_pos b)))).mono ?_
  rintro e w10 ⟨rfl, hup⟩
  replace hk6 := hk6.up hup
  replace hk10 := hk10.up hup
  replace hk12 := hk12.up hup
  replace h_5 := h_5.up hup
  replace h_8 := h_8.up hup
  replace hupw := hupw.trans hup
  clear hup
  have hk12c0 := hk12.cell (i := 0) rfl
  have hk12c1 := hk12.cell (i := 1) rfl
  have hk12l := hk12.lt
  have hk10c0 := hk10.cell (i := 0) rfl
  have hk10c1 := hk10.cell (i := 1) rfl
  have hk10l := hk10.lt
  go_wp2_with fail
  clear hk12c0 hk12c1 hk12l hk10c0 hk10c1 hk10l
  refine (rmakeQ h_8 h_5).mono ?_
  rintro e w11 ⟨vf, rfl, hf, hup⟩
  replace hk6 := hk6.up hup
  replace hupw := hupw.trans hup
  clear hup
  obtain ⟨s_12, A_12, n_12, c_12, s_13, A_13, n_13, c_13, rfl, h_12, h_13⟩ := hf
  have hk6c0 := hk6.cell (i := 0) rfl
  have hk6c1 := hk6.cell (i := 1) rfl
  have hk6c2 := hk6.cell (i := 2) rfl
  have hk6c3 := hk6.cell (i := 3) rfl
  have hk6l := hk6.lt
  have hk6f0 := hk6.frozen 0
  have hk6f1 := hk6.frozen 1
  have hk6f2 := hk6.frozen 2
  have hk6f3 := hk6.frozen 3
  go_wp2_with fail
  clear hk6c0 hk6c1 hk6c2 hk6c3 hk6l hk6f0 hk6f1 hk6f2 hk6f3
  obtain ⟨ws14, hws14⟩ : ∃ x, x = (st4 w11 (w.heap.size + 1 + 1) (.bool s_12) (.slice A_12 n_12 c_12) (.bool s_13) (.slice A_13 n_13 c_13)) := ⟨_, rfl⟩
  have h_12' := h_12.st4 hk6 (noU4 _ _ _ _ _ _ _ _) (.bool s_12) (.slice A_12 n_12 c_12) (.bool s_13) (.slice A_13 n_13 c_13)
  have h_13' := h_13.st4 hk6 (noU4 _ _ _ _ _ _ _ _) (.bool s_12) (.slice A_12 n_12 c_12) (.bool s_13) (.slice A_13 n_13 c_13)
  rw [← hws14] at h_12'
  clear h_12
  have h_12 := h_12'
  clear h_12'
  rw [← hws14] at h_13'
  clear h_13
  have h_13 := h_13'
  clear h_13'
  replace hupw := hupw.st4 (g := (w.heap.size + 1 + 1)) (by omega) (.bool s_12) (.slice A_12 n_12 c_12) (.bool s_13) (.slice A_13 n_13 c_13)
  rw [← hws14] at hupw
  replace hk6 := hk6.four (.bool s_12) (.slice A_12 n_12 c_12) (.bool s_13) (.slice A_13 n_13 c_13)
  rw [← hws14] at hk6
  have hszws14 : ws14.heap.size = w11.heap.size := by rw [hws14]; simp [st4]
  unfold st4 at hws14
  rw [← hws14]
  clear hws14
  clear hszws14
  have hk6c0 := hk6.cell (i := 0) rfl
  have hk6c1 := hk6.cell (i := 1) rfl
  have hk6c2 := hk6.cell (i := 2) rfl
  have hk6c3 := hk6.cell (i := 3) rfl
  exact bodyPost_ret (v := .tuple #[.agg #[.bool s_12, .slice A_12 n_12 c_12, .bool s_13, .slice A_13 n_13 c_13], .int .i64 (makeR (nm a * dn b + nm b * dn a) (den0 a b)).e]) (by simp [results, Tryz.results72, go_sem, hk6c0, hk6c1, hk6c2, hk6c3]) rfl ⟨_, rfl, Fz.mk h_12 h_13, hupw⟩
theorem rsumaQ {w : World} {v v' : Value} {a b : Rat} (h : Rz w v a) (h' : Rz w v' b) : Calls Tryz.prog 72 #[v, v', .bool false] w (PR w (addR a b)) := by
  have e : addR a b = comR a b (nm a * dn b + nm b * dn a) := rfl
  rw [e]
  cases hc : crossB a b with
  | false => exact (rsuma_1 v v' w h h' hc).mono fun _ _ hr => PR.of hr (by unfold crossB at hc; unfold comR; rw [hc]; rfl)
  | true =>
    have hc2 := hc
    unfold crossB at hc2
    cases hz : okB (nm a * dn b + nm b * dn a) with
    | false => exact (rsuma_2 v v' w h h' hc hz).mono fun _ _ hr => PR.of hr (by unfold comR; rw [hc2, hz]; rfl)
    | true =>
      cases hd : okB (dn a * dn b) with
      | false => exact (rsuma_3 v v' w h h' hc hz hd).mono fun _ _ hr => PR.of hr (by unfold comR; rw [hc2, hz, hd]; rfl)
      | true =>
        have e2 : makeR (nm a * dn b + nm b * dn a) (den0 a b) = comR a b (nm a * dn b + nm b * dn a) := by
          unfold makeR den0 comR
          rw [hc2, hz, hd]
          have hne := dn_mul_ne a b
          simp only [if_true, Bool.and_self]
          rw [if_neg hne]
        rw [← e2]
        exact rsuma_4 v v' w h h' hc hz hd
set_option maxRecDepth 100000 in
set_option maxHeartbeats 4000000 in
theorem rsums_1 {a b : Rat} (v0 v1 : Value) (w : World) (f0 : Fz w v0 (nm a) (dn a)) (f1 : Fz w v1 (nm b) (dn b)) (hc : crossB a b = false) :
    Calls Tryz.prog 72 #[v0, v1, .bool true] w (PFE w 0 0 3) := by
  obtain ⟨s0, A0, n0, c0, t0, B0, m0, d0, rfl, h0, k0⟩ := f0
  obtain ⟨s1, A1, n1, c1, t1, B1, m1, d1, rfl, h1, k1⟩ := f1
  have hupw : Up w w := Up.refl w
  go_enter Tryz.func72, Tryz.ntmps72
  go_wp2_with fail
  obtain ⟨wa1, hwa1⟩ : ∃ x, x = (((w.alloc (.cells #[.bool s0, .slice A0 n0 c0, .bool t0, .slice B0 m0 d0] 29)).alloc (.cells #[.bool s1, .slice A1 n1 c1, .bool t1, .slice B1 m1 d1] 29)).alloc (.cells #[.bool false, .slice none 0 0, .bool false, .slice none 0 0] 29)) := ⟨_, rfl⟩
  have hup : Up w wa1 := by rw [hwa1]; exact ((((Up.refl w).alloc _).alloc _).alloc _)
  have hzwa1 : w.heap.size ≤ w.heap.size := hupw.size
  replace h0 := h0.up hup
  replace k0 := k0.up hup
  replace h1 := h1.up hup
  replace k1 := k1.up hup
  replace hupw := hupw.trans hup
  clear hup
  have hk3 : Bk wa1 (w.heap.size) 29 #[.bool s0, .slice A0 n0 c0, .bool t0, .slice B0 m0 d0] := by
    have := (((Bk.new w 29 #[.bool s0, .slice A0 n0 c0, .bool t0, .slice B0 m0 d0]).alloc (.cells #[.bool s1, .slice A1 n1 c1, .bool t1, .slice B1 m1 d1] 29)).alloc (.cells #[.bool false, .slice none 0 0, .bool false, .slice none 0 0] 29))
    rw [hwa1]; simpa using this
  have hk4 : Bk wa1 (w.heap.size + 1) 29 #[.bool s1, .slice A1 n1 c1, .bool t1, .slice B1 m1 d1] := by
    have := ((Bk.new (w.alloc (.cells #[.bool s0, .slice A0 n0 c0, .bool t0, .slice B0 m0 d0] 29)) 29 #[.bool s1, .slice A1 n1 c1, .bool t1, .slice B1 m1 d1]).alloc (.cells #[.bool false, .slice none 0 0, .bool false, .slice none 0 0] 29))
    rw [hwa1]; simpa using this
  have hk6 : Bk wa1 (w.heap.size + 1 + 1) 29 #[.bool false, .slice none 0 0, .bool false, .slice none 0 0] := by
    have := (Bk.new ((w.alloc (.cells #[.bool s0, .slice A0 n0 c0, .bool t0, .slice B0 m0 d0] 29)).alloc (.cells #[.bool s1, .slice A1 n1 c1, .bool t1, .slice B1 m1 d1] 29)) 29 #[.bool false, .slice none 0 0, .bool false, .slice none 0 0])
    rw [hwa1]; simpa using this
  rw [← hwa1]
  clear hwa1
  refine (crossNQ (Fz.mk h0 k0) (Fz.mk h1 k1) hc).mono ?_
  rintro e w2 ⟨v_3, v_4, v_5, rfl, h_3, h_4, h_5, hup⟩
  replace hk6 := hk6.up hup
  replace hupw := hupw.trans hup
  clear hup
  obtain ⟨s_3, A_3, n_3, c_3, rfl⟩ := h_3.agg
  obtain ⟨s_4, A_4, n_4, c_4, rfl⟩ := h_4.agg
  obtain ⟨s_5, A_5, n_5, c_5, rfl⟩ := h_5.agg
  have hk6c0 := hk6.cell (i := 0) rfl
  have hk6c1 := hk6.cell (i := 1) rfl
  have hk6c2 := hk6.cell (i := 2) rfl
  have hk6c3 := hk6.cell (i := 3) rfl
  have hk6l := hk6.lt
  have hk6f0 := hk6.frozen 0
  have hk6f1 := hk6.frozen 1
  have hk6f2 := hk6.frozen 2
  have hk6f3 := hk6.frozen 3
  have hk6l1 : (w.heap.size + 1 + 1) < w2.heap.size + 1 := by omega
  have hk6l2 : (w.heap.size + 1 + 1) < w2.heap.size + 1 + 1 := by omega
  go_wp2_with fail
  clear hk6c0 hk6c1 hk6c2 hk6c3 hk6l hk6f0 hk6f1 hk6f2 hk6f3 hk6l1 hk6l2
  obtain ⟨ws6, hws6⟩ : ∃ x, x = (st4 w2 (w.heap.size + 1 + 1) (.bool false) (.slice none 0 0) (.bool false) (.slice none 0 0)) := ⟨_, rfl⟩
  replace hupw := hupw.st4 (g := (w.heap.size + 1 + 1)) (by omega) (.bool false) (.slice none 0 0) (.bool false) (.slice none 0 0)
  rw [← hws6] at hupw
  replace hk6 := hk6.four (.bool false) (.slice none 0 0) (.bool false) (.slice none 0 0)
  rw [← hws6] at hk6
  have hszws6 : ws6.heap.size = w2.heap.size := by rw [hws6]; simp [st4]
  unfold st4 at hws6
  rw [← hws6]
  clear hws6
  obtain ⟨wa7, hwa7⟩ : ∃ x, x = (((ws6.alloc (.cells #[.bool s_3, .slice A_3 n_3 c_3] 24)).alloc (.cells #[.bool s_4, .slice A_4 n_4 c_4] 24)).alloc (.cells #[.bool s_5, .slice A_5 n_5 c_5] 24)) := ⟨_, rfl⟩
  have hup : Up ws6 wa7 := by rw [hwa7]; exact ((((Up.refl ws6).alloc _).alloc _).alloc _)
  have howa7 : (w.heap.size + 1 + 1) < w2.heap.size := by have := hk6.lt; omega
  have hzwa7 : w.heap.size ≤ w2.heap.size := by have := hupw.size; omega
  replace hk6 := hk6.up hup
  replace hupw := hupw.trans hup
  clear hup
  have hk8 : Bk wa7 (w2.heap.size) 24 #[.bool s_3, .slice A_3 n_3 c_3] := by
    have := (((Bk.new ws6 24 #[.bool s_3, .slice A_3 n_3 c_3]).alloc (.cells #[.bool s_4, .slice A_4 n_4 c_4] 24)).alloc (.cells #[.bool s_5, .slice A_5 n_5 c_5] 24))
    rw [hwa7]; simpa [hszws6] using this
  have hk9 : Bk wa7 (w2.heap.size + 1) 24 #[.bool s_4, .slice A_4 n_4 c_4] := by
    have := ((Bk.new (ws6.alloc (.cells #[.bool s_3, .slice A_3 n_3 c_3] 24)) 24 #[.bool s_4, .slice A_4 n_4 c_4]).alloc (.cells #[.bool s_5, .slice A_5 n_5 c_5] 24))
    rw [hwa7]; simpa [hszws6] using this
  have hk10 : Bk wa7 (w2.heap.size + 1 + 1) 24 #[.bool s_5, .slice A_5 n_5 c_5] := by
    have := (Bk.new ((ws6.alloc (.cells #[.bool s_3, .slice A_3 n_3 c_3] 24)).alloc (.cells #[.bool s_4, .slice A_4 n_4 c_4] 24)) 24 #[.bool s_5, .slice A_5 n_5 c_5])
    rw [hwa7]; simpa [hszws6] using this
  rw [← hwa7]
  clear hwa7
  clear hszws6
  have hk6c0 := hk6.cell (i := 0) rfl
  have hk6c1 := hk6.cell (i := 1) rfl
  have hk6c2 := hk6.cell (i := 2) rfl
  have hk6c3 := hk6.cell (i := 3) rfl
  exact bodyPost_ret (v := .tuple #[.agg #[.bool false, .slice none 0 0, .bool false, .slice none 0 0], .int .i64 3]) (by simp [results, Tryz.results72, go_sem, hk6c0, hk6c1, hk6c2, hk6c3]) rfl ⟨_, rfl, Fz.mk (Iz.zero _) (Iz.zero _), hupw⟩
set_option maxRecDepth 100000 in
set_option maxHeartbeats 4000000 in
theorem rsums_2 {a b : Rat} (v0 v1 : Value) (w : World) (f0 : Fz w v0 (nm a) (dn a)) (f1 : Fz w v1 (nm b) (dn b)) (hc : crossB a b = true) (hz : okB (nm a * dn b + -(nm b * dn a)) = false) :
    Calls Tryz.prog 72 #[v0, v1, .bool true] w (PFE w 0 0 3) := by
  obtain ⟨s0, A0, n0, c0, t0, B0, m0, d0, rfl, h0, k0⟩ := f0
  obtain ⟨s1, A1, n1, c1, t1, B1, m1, d1, rfl, h1, k1⟩ := f1
  have hupw : Up w w := Up.refl w
  go_enter Tryz.func72, Tryz.ntmps72
  go_wp2_with fail
  obtain ⟨wa1, hwa1⟩ : ∃ x, x = (((w.alloc (.cells #[.bool s0, .slice A0 n0 c0, .bool t0, .slice B0 m0 d0] 29)).alloc (.cells #[.bool s1, .slice A1 n1 c1, .bool t1, .slice B1 m1 d1] 29)).alloc (.cells #[.bool false, .slice none 0 0, .bool false, .slice none 0 0] 29)) := ⟨_, rfl⟩
  have hup : Up w wa1 := by rw [hwa1]; exact ((((Up.refl w).alloc _).alloc _).alloc _)
  have hzwa1 : w.heap.size ≤ w.heap.size := hupw.size
  replace h0 := h0.up hup
  replace k0 := k0.up hup
  replace h1 := h1.up hup
  replace k1 := k1.up hup
  replace hupw := hupw.trans hup
  clear hup
  have hk3 : Bk wa1 (w.heap.size) 29 #[.bool s0, .slice A0 n0 c0, .bool t0, .slice B0 m0 d0] := by
    have := (((Bk.new w 29 #[.bool s0, .slice A0 n0 c0, .bool t0, .slice B0 m0 d0]).alloc (.cells #[.bool s1, .slice A1 n1 c1, .bool t1, .slice B1 m1 d1] 29)).alloc (.cells #[.bool false, .slice none 0 0, .bool false, .slice none 0 0] 29))
    rw [hwa1]; simpa using this
  have hk4 : Bk wa1 (w.heap.size + 1) 29 #[.bool s1, .slice A1 n1 c1, .bool t1, .slice B1 m1 d1] := by
    have := ((Bk.new (w.alloc (.cells #[.bool s0, .slice A0 n0 c0, .bool t0, .slice B0 m0 d0] 29)) 29 #[.bool s1, .slice A1 n1 c1, .bool t1, .slice B1 m1 d1]).alloc (.cells #[.bool false, .slice none 0 0, .bool false, .slice none 0 0] 29))
    rw [hwa1]; simpa using this
  have hk6 : Bk wa1 (w.heap.size + 1 + 1) 29 #[.bool false, .slice none 0 0, .bool false, .slice none 0 0] := by
    have := (Bk.new ((w.alloc (.cells #[.bool s0, .slice A0 n0 c0, .bool t0, .slice B0 m0 d0] 29)).alloc (.cells #[.bool s1, .slice A1 n1 c1, .bool t1, .slice B1 m1 d1] 29)) 29 #[.bool false, .slice none 0 0, .bool false, .slice none 0 0])
    rw [hwa1]; simpa using this
  rw [← hwa1]
  clear hwa1
  refine (crossQ (Fz.mk h0 k0) (Fz.mk h1 k1) hc).mono ?_
  rintro e w2 ⟨v_3, v_4, v_5, rfl, h_3, h_4, h_5, hup⟩
  replace hk6 := hk6.up hup
  replace hupw := hupw.trans hup
  clear hup
  obtain ⟨s_3, A_3, n_3, c_3, rfl⟩ := h_3.agg
  obtain ⟨s_4, A_4, n_4, c_4, rfl⟩ := h_4.agg
  obtain ⟨s_5, A_5, n_5, c_5, rfl⟩ := h_5.agg
  go_wp2_with fail
  obtain ⟨wa6, hwa6⟩ : ∃ x, x = (((w2.alloc (.cells #[.bool s_3, .slice A_3 n_3 c_3] 24)).alloc (.cells #[.bool s_4, .slice A_4 n_4 c_4] 24)).alloc (.cells #[.bool s_5, .slice A_5 n_5 c_5] 24)) := ⟨_, rfl⟩
  have hup : Up w2 wa6 := by rw [hwa6]; exact ((((Up.refl w2).alloc _).alloc _).alloc _)
  have howa6 : (w.heap.size + 1 + 1) < w2.heap.size := hk6.lt
  have hzwa6 : w.heap.size ≤ w2.heap.size := hupw.size
  replace hk6 := hk6.up hup
  replace h_3 := h_3.up hup
  replace h_4 := h_4.up hup
  replace hupw := hupw.trans hup
  clear hup
  have hk8 : Bk wa6 (w2.heap.size) 24 #[.bool s_3, .slice A_3 n_3 c_3] := by
    have := (((Bk.new w2 24 #[.bool s_3, .slice A_3 n_3 c_3]).alloc (.cells #[.bool s_4, .slice A_4 n_4 c_4] 24)).alloc (.cells #[.bool s_5, .slice A_5 n_5 c_5] 24))
    rw [hwa6]; simpa using this
  have hk9 : Bk wa6 (w2.heap.size + 1) 24 #[.bool s_4, .slice A_4 n_4 c_4] := by
    have := ((Bk.new (w2.alloc (.cells #[.bool s_3, .slice A_3 n_3 c_3] 24)) 24 #[.bool s_4, .slice A_4 n_4 c_4]).alloc (.cells #[.bool s_5, .slice A_5 n_5 c_5] 24))
    rw [hwa6]; simpa using this
  have hk10 : Bk wa6 (w2.heap.size + 1 + 1) 24 #[.bool s_5, .slice A_5 n_5 c_5] := by
    have := (Bk.new ((w2.alloc (.cells #[.bool s_3, .slice A_3 n_3 c_3] 24)).alloc (.cells #[.bool s_4, .slice A_4 n_4 c_4] 24)) 24 #[.bool s_5, .slice A_5 n_5 c_5])
    rw [hwa6]; simpa using this
  rw [← hwa6]
  clear hwa6
  refine (negQ h_4).mono ?_
  rintro e w7 ⟨v_8, rfl, h_8, hup⟩
  replace hk6 := hk6.up hup
  replace hk8 := hk8.up hup
  replace hk9 := hk9.up hup
  replace hk10 := hk10.up hup
  replace h_3 := h_3.up hup
  replace hupw := hupw.trans hup
  clear hup
  obtain ⟨s_8, A_8, n_8, c_8, rfl⟩ := h_8.agg
  have hk8c0 := hk8.cell (i := 0) rfl
  have hk8c1 := hk8.cell (i := 1) rfl
  have hk8l := hk8.lt
  have hk9c0 := hk9.cell (i := 0) rfl
  have hk9c1 := hk9.cell (i := 1) rfl
  have hk9l := hk9.lt
  have hk9f0 := hk9.frozen 0
  have hk9f1 := hk9.frozen 1
  go_wp2_with fail
  clear hk8c0 hk8c1 hk8l hk9c0 hk9c1 hk9l hk9f0 hk9f1
  obtain ⟨ws9, hws9⟩ : ∃ x, x = ((w7.setCell ⟨(w2.heap.size + 1), 0, none⟩ (.bool s_8)).setCell ⟨(w2.heap.size + 1), 1, none⟩ (.slice A_8 n_8 c_8)) := ⟨_, rfl⟩
  have h_3' := h_3.st2 hk9 (noU2 _ _ _ _) (.bool s_8) (.slice A_8 n_8 c_8)
  have h_8' := h_8.st2 hk9 (noU2 _ _ _ _) (.bool s_8) (.slice A_8 n_8 c_8)
  rw [← hws9] at h_3'
  clear h_3
  have h_3 := h_3'
  clear h_3'
  rw [← hws9] at h_8'
  clear h_8
  have h_8 := h_8'
  clear h_8'
  replace hk6 := hk6.far2 (g' := (w2.heap.size + 1)) (by omega) (.bool s_8) (.slice A_8 n_8 c_8)
  rw [← hws9] at hk6
  replace hk10 := hk10.far2 (g' := (w2.heap.size + 1)) (by omega) (.bool s_8) (.slice A_8 n_8 c_8)
  rw [← hws9] at hk10
  replace hupw := hupw.two (g := (w2.heap.size + 1)) (by omega) (.bool s_8) (.slice A_8 n_8 c_8)
  rw [← hws9] at hupw
  have hszws9 : ws9.heap.size = w7.heap.size := by rw [hws9]; simp
  rw [← hws9]
  clear hws9
  clear hszws9
  refine (raddN h_3 h_8 hz).mono ?_
  rintro e w10 ⟨v_11, rfl, h_11, hup⟩
  replace hk6 := hk6.up hup
  replace hk10 := hk10.up hup
  replace hupw := hupw.trans hup
  clear hup
  obtain ⟨s_11, A_11, n_11, c_11, rfl⟩ := h_11.agg
  have hk6c0 := hk6.cell (i := 0) rfl
  have hk6c1 := hk6.cell (i := 1) rfl
  have hk6c2 := hk6.cell (i := 2) rfl
  have hk6c3 := hk6.cell (i := 3) rfl
  have hk6l := hk6.lt
  have hk6f0 := hk6.frozen 0
  have hk6f1 := hk6.frozen 1
  have hk6f2 := hk6.frozen 2
  have hk6f3 := hk6.frozen 3
  go_wp2_with fail
  clear hk6c0 hk6c1 hk6c2 hk6c3 hk6l hk6f0 hk6f1 hk6f2 hk6f3
  obtain ⟨ws12, hws12⟩ : ∃ x, x = (st4 w10 (w.heap.size + 1 + 1) (.bool false) (.slice none 0 0) (.bool false) (.slice none 0 0)) := ⟨_, rfl⟩
  replace hk10 := hk10.far4 (g' := (w.heap.size + 1 + 1)) (by omega) (.bool false) (.slice none 0 0) (.bool false) (.slice none 0 0)
  rw [← hws12] at hk10
  replace hupw := hupw.st4 (g := (w.heap.size + 1 + 1)) (by omega) (.bool false) (.slice none 0 0) (.bool false) (.slice none 0 0)
  rw [← hws12] at hupw
  replace hk6 := hk6.four (.bool false) (.slice none 0 0) (.bool false) (.slice none 0 0)
  rw [← hws12] at hk6
  have hszws12 : ws12.heap.size = w10.heap.size := by rw [hws12]; simp [st4]
  unfold st4 at hws12
  rw [← hws12]
  clear hws12
  obtain ⟨wa13, hwa13⟩ : ∃ x, x = (ws12.alloc (.cells #[.bool s_11, .slice A_11 n_11 c_11] 24)) := ⟨_, rfl⟩
  have hup : Up ws12 wa13 := by rw [hwa13]; exact ((Up.refl ws12).alloc _)
  have howa13 : (w2.heap.size + 1 + 1) < w10.heap.size := by have := hk10.lt; omega
  have hzwa13 : w.heap.size ≤ w10.heap.size := by have := hupw.size; omega
  replace hk6 := hk6.up hup
  replace hupw := hupw.trans hup
  clear hup
  have hk12 : Bk wa13 (w10.heap.size) 24 #[.bool s_11, .slice A_11 n_11 c_11] := by
    have := (Bk.new ws12 24 #[.bool s_11, .slice A_11 n_11 c_11])
    rw [hwa13]; simpa [hszws12] using this
  rw [← hwa13]
  clear hwa13
  clear hszws12
  have hk6c0 := hk6.cell (i := 0) rfl
  have hk6c1 := hk6.cell (i := 1) rfl
  have hk6c2 := hk6.cell (i := 2) rfl
  have hk6c3 := hk6.cell (i := 3) rfl
  exact bodyPost_ret (v := .tuple #[.agg #[.bool false, .slice none 0 0, .bool false, .slice none 0 0], .int .i64 3]) (by simp [results, Tryz.results72, go_sem, hk6c0, hk6c1, hk6c2, hk6c3]) rfl ⟨_, rfl, Fz.mk (Iz.zero _) (Iz.zero _), hupw⟩
set_option maxRecDepth 100000 in
set_option maxHeartbeats 4000000 in
theorem rsums_3 {a b : Rat} (v0 v1 : Value) (w : World) (f0 : Fz w v0 (nm a) (dn a)) (f1 : Fz w v1 (nm b) (dn b)) (hc : crossB a b = true) (hz : okB (nm a * dn b + -(nm b * dn a)) = true) (hd : okB (dn a * dn b) = false) :
    Calls Tryz.prog 72 #[v0, v1, .bool true] w (PFE w 0 0 3) := by
  obtain ⟨s0, A0, n0, c0, t0, B0, m0, d0, rfl, h0, k0⟩ := f0
  obtain ⟨s1, A1, n1, c1, t1, B1, m1, d1, rfl, h1, k1⟩ := f1
  have hupw : Up w w := Up.refl w
  go_enter Tryz.func72, Tryz.ntmps72
  go_wp2_with fail
  obtain ⟨wa1, hwa1⟩ : ∃ x, x = (((w.alloc (.cells #[.bool s0, .slice A0 n0 c0, .bool t0, .slice B0 m0 d0] 29)).alloc (.cells #[.bool s1, .slice A1 n1 c1, .bool t1, .slice B1 m1 d1] 29)).alloc (.cells #[.bool false, .slice none 0 0, .bool false, .slice none 0 0] 29)) := ⟨_, rfl⟩
  have hup : Up w wa1 := by rw [hwa1]; exact ((((Up.refl w).alloc _).alloc _).alloc _)
  have hzwa1 : w.heap.size ≤ w.heap.size := hupw.size
  replace h0 := h0.up hup
  replace k0 := k0.up hup
  replace h1 := h1.up hup
  replace k1 := k1.up hup
  replace hupw := hupw.trans hup
  clear hup
  have hk3 : Bk wa1 (w.heap.size) 29 #[.bool s0, .slice A0 n0 c0, .bool t0, .slice B0 m0 d0] := by
    have := (((Bk.new w 29 #[.bool s0, .slice A0 n0 c0, .bool t0, .slice B0 m0 d0]).alloc (.cells #[.bool s1, .slice A1 n1 c1, .bool t1, .slice B1 m1 d1] 29)).alloc (.cells #[.bool false, .slice none 0 0, .bool false, .slice none 0 0] 29))
    rw [hwa1]; simpa using this
  have hk4 : Bk wa1 (w.heap.size + 1) 29 #[.bool s1, .slice A1 n1 c1, .bool t1, .slice B1 m1 d1] := by
    have := ((Bk.new (w.alloc (.cells #[.bool s0, .slice A0 n0 c0, .bool t0, .slice B0 m0 d0] 29)) 29 #[.bool s1, .slice A1 n1 c1, .bool t1, .slice B1 m1 d1]).alloc (.cells #[.bool false, .slice none 0 0, .bool false, .slice none 0 0] 29))
    rw [hwa1]; simpa using this
  have hk6 : Bk wa1 (w.heap.size + 1 + 1) 29 #[.bool false, .slice none 0 0, .bool false, .slice none 0 0] := by
    have := (Bk.new ((w.alloc (.cells #[.bool s0, .slice A0 n0 c0, .bool t0, .slice B0 m0 d0] 29)).alloc (.cells #[.bool s1, .slice A1 n1 c1, .bool t1, .slice B1 m1 d1] 29)) 29 #[.bool false, .slice none 0 0, .bool false, .slice none 0 0])
    rw [hwa1]; simpa using this
  rw [← hwa1]
  clear hwa1
  refine (crossQ (Fz.mk h0 k0) (Fz.mk h1 k1) hc).mono ?_
  rintro e w2 ⟨v_3, v_4, v_5, rfl, h_3, h_4, h_5, hup⟩
  replace hk6 := hk6.up hup
  replace hupw := hupw.trans hup
  clear hup
  obtain ⟨s_3, A_3, n_3, c_3, rfl⟩ := h_3.agg
  obtain ⟨s_4, A_4, n_4, c_4, rfl⟩ := h_4.agg
  obtain ⟨s_5, A_5, n_5, c_5, rfl⟩ := h_5.agg
  go_wp2_with fail
  obtain ⟨wa6, hwa6⟩ : ∃ x, x = (((w2.alloc (.cells #[.bool s_3, .slice A_3 n_3 c_3] 24)).alloc (.cells #[.bool s_4, .slice A_4 n_4 c_4] 24)).alloc (.cells #[.bool s_5, .slice A_5 n_5 c_5] 24)) := ⟨_, rfl⟩
  have hup : Up w2 wa6 := by rw [hwa6]; exact ((((Up.refl w2).alloc _).alloc _).alloc _)
  have howa6 : (w.heap.size + 1 + 1) < w2.heap.size := hk6.lt
  have hzwa6 : w.heap.size ≤ w2.heap.size := hupw.size
  replace hk6 := hk6.up hup
  replace h_3 := h_3.up hup
  replace h_4 := h_4.up hup
  replace h_5 := h_5.up hup
  replace hupw := hupw.trans hup
  clear hup
  have hk8 : Bk wa6 (w2.heap.size) 24 #[.bool s_3, .slice A_3 n_3 c_3] := by
    have := (((Bk.new w2 24 #[.bool s_3, .slice A_3 n_3 c_3]).alloc (.cells #[.bool s_4, .slice A_4 n_4 c_4] 24)).alloc (.cells #[.bool s_5, .slice A_5 n_5 c_5] 24))
    rw [hwa6]; simpa using this
  have hk9 : Bk wa6 (w2.heap.size + 1) 24 #[.bool s_4, .slice A_4 n_4 c_4] := by
    have := ((Bk.new (w2.alloc (.cells #[.bool s_3, .slice A_3 n_3 c_3] 24)) 24 #[.bool s_4, .slice A_4 n_4 c_4]).alloc (.cells #[.bool s_5, .slice A_5 n_5 c_5] 24))
    rw [hwa6]; simpa using this
  have hk10 : Bk wa6 (w2.heap.size + 1 + 1) 24 #[.bool s_5, .slice A_5 n_5 c_5] := by
    have := (Bk.new ((w2.alloc (.cells #[.bool s_3, .slice A_3 n_3 c_3] 24)).alloc (.cells #[.bool s_4, .slice A_4 n_4 c_4] 24)) 24 #[.bool s_5, .slice A_5 n_5 c_5])
    rw [hwa6]; simpa using this
  rw [← hwa6]
  clear hwa6
  refine (negQ h_4).mono ?_
  rintro e w7 ⟨v_8, rfl, h_8, hup⟩
  replace hk6 := hk6.up hup
  replace hk8 := hk8.up hup
  replace hk9 := hk9.up hup
  replace hk10 := hk10.up hup
  replace h_3 := h_3.up hup
  replace h_5 := h_5.up hup
  replace hupw := hupw.trans hup
  clear hup
  obtain ⟨s_8, A_8, n_8, c_8, rfl⟩ := h_8.agg
  have hk8c0 := hk8.cell (i := 0) rfl
  have hk8c1 := hk8.cell (i := 1) rfl
  have hk8l := hk8.lt
  have hk9c0 := hk9.cell (i := 0) rfl
  have hk9c1 := hk9.cell (i := 1) rfl
  have hk9l := hk9.lt
  have hk9f0 := hk9.frozen 0
  have hk9f1 := hk9.frozen 1
  go_wp2_with fail
  clear hk8c0 hk8c1 hk8l hk9c0 hk9c1 hk9l hk9f0 hk9f1
  obtain ⟨ws9, hws9⟩ : ∃ x, x = ((w7.setCell ⟨(w2.heap.size + 1), 0, none⟩ (.bool s_8)).setCell ⟨(w2.heap.size + 1), 1, none⟩ (.slice A_8 n_8 c_8)) := ⟨_, rfl⟩
  have h_3' := h_3.st2 hk9 (noU2 _ _ _ _) (.bool s_8) (.slice A_8 n_8 c_8)
  have h_5' := h_5.st2 hk9 (noU2 _ _ _ _) (.bool s_8) (.slice A_8 n_8 c_8)
  have h_8' := h_8.st2 hk9 (noU2 _ _ _ _) (.bool s_8) (.slice A_8 n_8 c_8)
  rw [← hws9] at h_3'
  clear h_3
  have h_3 := h_3'
  clear h_3'
  rw [← hws9] at h_5'
  clear h_5
  have h_5 := h_5'
  clear h_5'
  rw [← hws9] at h_8'
  clear h_8
  have h_8 := h_8'
  clear h_8'
  replace hk6 := hk6.far2 (g' := (w2.heap.size + 1)) (by omega) (.bool s_8) (.slice A_8 n_8 c_8)
  rw [← hws9] at hk6
  replace hk10 := hk10.far2 (g' := (w2.heap.size + 1)) (by omega) (.bool s_8) (.slice A_8 n_8 c_8)
  rw [← hws9] at hk10
  replace hupw := hupw.two (g := (w2.heap.size + 1)) (by omega) (.bool s_8) (.slice A_8 n_8 c_8)
  rw [← hws9] at hupw
  have hszws9 : ws9.heap.size = w7.heap.size := by rw [hws9]; simp
  rw [← hws9]
  clear hws9
  clear hszws9
  refine (raddQ h_3 h_8 hz).mono ?_
  rintro e w10 ⟨v_11, rfl, h_11, hup⟩
  replace hk6 := hk6.up hup
  replace hk10 := hk10.up hup
  replace h_5 := h_5.up hup
  replace hupw := hupw.trans hup
  clear hup
  obtain ⟨s_11, A_11, n_11, c_11, rfl⟩ := h_11.agg
  have hk10c0 := hk10.cell (i := 0) rfl
  have hk10c1 := hk10.cell (i := 1) rfl
  have hk10l := hk10.lt
  go_wp2_with fail
  clear hk10c0 hk10c1 hk10l
  obtain ⟨wa12, hwa12⟩ : ∃ x, x = (w10.alloc (.cells #[.bool s_11, .slice A_11 n_11 c_11] 24)) := ⟨_, rfl⟩
  have hup : Up w10 wa12 := by rw [hwa12]; exact ((Up.refl w10).alloc _)
  have howa12 : (w2.heap.size + 1 + 1) < w10.heap.size := hk10.lt
  have hzwa12 : w.heap.size ≤ w10.heap.size := hupw.size
  replace hk6 := hk6.up hup
  replace h_5 := h_5.up hup
  replace hupw := hupw.trans hup
  clear hup
  have hk12 : Bk wa12 (w10.heap.size) 24 #[.bool s_11, .slice A_11 n_11 c_11] := by
    have := (Bk.new w10 24 #[.bool s_11, .slice A_11 n_11 c_11])
    rw [hwa12]; simpa using this
  rw [← hwa12]
  clear hwa12
  refine (rsignQ 0 h_5 (by unfold den0; rw [hd]; rfl)).mono ?_
  rintro e w13 ⟨rfl, hup⟩
  replace hk6 := hk6.up hup
  replace hupw := hupw.trans hup
  clear hup
  have hk6c0 := hk6.cell (i := 0) rfl
  have hk6c1 := hk6.cell (i := 1) rfl
  have hk6c2 := hk6.cell (i := 2) rfl
  have hk6c3 := hk6.cell (i := 3) rfl
  have hk6l := hk6.lt
  have hk6f0 := hk6.frozen 0
  have hk6f1 := hk6.frozen 1
  have hk6f2 := hk6.frozen 2
  have hk6f3 := hk6.frozen 3
  go_wp2_with fail
  clear hk6c0 hk6c1 hk6c2 hk6c3 hk6l hk6f0 hk6f1 hk6f2 hk6f3
  obtain ⟨ws14, hws14⟩ : ∃ x, x = (st4 w13 (w.heap.size + 1 + 1) (.bool false) (.slice none 0 0) (.bool false) (.slice none 0 0)) := ⟨_, rfl⟩
  replace hupw := hupw.st4 (g := (w.heap.size + 1 + 1)) (by omega) (.bool false) (.slice none 0 0) (.bool false) (.slice none 0 0)
  rw [← hws14] at hupw
  replace hk6 := hk6.four (.bool false) (.slice none 0 0) (.bool false) (.slice none 0 0)
  rw [← hws14] at hk6
  have hszws14 : ws14.heap.size = w13.heap.size := by rw [hws14]; simp [st4]
  unfold st4 at hws14
  rw [← hws14]
  clear hws14
  clear hszws14
  have hk6c0 := hk6.cell (i := 0) rfl
  have hk6c1 := hk6.cell (i := 1) rfl
  have hk6c2 := hk6.cell (i := 2) rfl
  have hk6c3 := hk6.cell (i := 3) rfl
  exact bodyPost_ret (v := .tuple #[.agg #[.bool false, .slice none 0 0, .bool false, .slice none 0 0], .int .i64 3]) (by simp [results, Tryz.results72, go_sem, hk6c0, hk6c1, hk6c2, hk6c3]) rfl ⟨_, rfl, Fz.mk (Iz.zero _) (Iz.zero _), hupw⟩
set_option maxRecDepth 100000 in
set_option maxHeartbeats 4000000 in
theorem rsums_4 {a b : Rat} (v0 v1 : Value) (w : World) (f0 : Fz w v0 (nm a) (dn a)) (f1 : Fz w v1 (nm b) (dn b)) (hc : crossB a b = true) (hz : okB (nm a * dn b + -(nm b * dn a)) = true) (hd : okB (dn a * dn b) = true) :
    Calls Tryz.prog 72 #[v0, v1, .bool true] w (PR w (makeR (nm a * dn b + -(nm b * dn a)) (den0 a b))) := by
  obtain ⟨s0, A0, n0, c0, t0, B0, m0, d0, rfl, h0, k0⟩ := f0
  obtain ⟨s1, A1, n1, c1, t1, B1, m1, d1, rfl, h1, k1⟩ := f1
  have hupw : Up w w := Up.refl w
  go_enter Tryz.func72, Tryz.ntmps72
  go_wp2_with fail
  obtain ⟨wa1, hwa1⟩ : ∃ x, x = (((w.alloc (.cells #[.bool s0, .slice A0 n0 c0, .bool t0, .slice B0 m0 d0] 29)).alloc (.cells #[.bool s1, .slice A1 n1 c1, .bool t1, .slice B1 m1 d1] 29)).alloc (.cells #[.bool false, .slice none 0 0, .bool false, .slice none 0 0] 29)) := ⟨_, rfl⟩
  have hup : Up w wa1 := by rw [hwa1]; exact ((((Up.refl w).alloc _).alloc _).alloc _)
  have hzwa1 : w.heap.size ≤ w.heap.size := hupw.size
  replace h0 := h0.up hup
  replace k0 := k0.up hup
  replace h1 := h1.up hup
  replace k1 := k1.up hup
  replace hupw := hupw.trans hup
  clear hup
  have hk3 : Bk wa1 (w.heap.size) 29 #[.bool s0, .slice A0 n0 c0, .bool t0, .slice B0 m0 d0] := by
    have := (((Bk.new w 29 #[.bool s0, .slice A0 n0 c0, .bool t0, .slice B0 m0 d0]).alloc (.cells #[.bool s1, .slice A1 n1 c1, .bool t1, .slice B1 m1 d1] 29)).alloc (.cells #[.bool false, .slice none 0 0, .bool false, .slice none 0 0] 29))
    rw [hwa1]; simpa using this
  have hk4 : Bk wa1 (w.heap.size + 1) 29 #[.bool s1, .slice A1 n1 c1, .bool t1, .slice B1 m1 d1] := by
    have := ((Bk.new (w.alloc (.cells #[.bool s0, .slice A0 n0 c0, .bool t0, .slice B0 m0 d0] 29)) 29 #[.bool s1, .slice A1 n1 c1, .bool t1, .slice B1 m1 d1]).alloc (.cells #[.bool false, .slice none 0 0, .bool false, .slice none 0 0] 29))
    rw [hwa1]; simpa using this
  have hk6 : Bk wa1 (w.heap.size + 1 + 1) 29 #[.bool false, .slice none 0 0, .bool false, .slice none 0 0] := by
    have := (Bk.new ((w.alloc (.cells #[.bool s0, .slice A0 n0 c0, .bool t0, .slice B0 m0 d0] 29)).alloc (.cells #[.bool s1, .slice A1 n1 c1, .bool t1, .slice B1 m1 d1] 29)) 29 #[.bool false, .slice none 0 0, .bool false, .slice none 0 0])
    rw [hwa1]; simpa using this
  rw [← hwa1]
  clear hwa1
  refine (crossQ (Fz.mk h0 k0) (Fz.mk h1 k1) hc).mono ?_
  rintro e w2 ⟨v_3, v_4, v_5, rfl, h_3, h_4, h_5, hup⟩
  replace hk6 := hk6.up hup
  replace hupw := hupw.trans hup
  clear hup
  obtain ⟨s_3, A_3, n_3, c_3, rfl⟩ := h_3.agg
  obtain ⟨s_4, A_4, n_4, c_4, rfl⟩ := h_4.agg
  obtain ⟨s_5, A_5, n_5, c_5, rfl⟩ := h_5.agg
  go_wp2_with fail
  obtain ⟨wa6, hwa6⟩ : ∃ x, x = (((w2.alloc (.cells #[.bool s_3, .slice A_3 n_3 c_3] 24)).alloc (.cells #[.bool s_4, .slice A_4 n_4 c_4] 24)).alloc (.cells #[.bool s_5, .slice A_5 n_5 c_5] 24)) := ⟨_, rfl⟩
  have hup : Up w2 wa6 := by rw [hwa6]; exact ((((Up.refl w2).alloc _).alloc _).alloc _)
  have howa6 : (w.heap.size + 1 + 1) < w2.heap.size := hk6.lt
  have hzwa6 : w.heap.size ≤ w2.heap.size := hupw.size
  replace hk6 := hk6.up hup
  replace h_3 := h_3.up hup
  replace h_4 := h_4.up hup
  replace h_5 := h_5.up hup
  replace hupw := hupw.trans hup
  clear hup
  have hk8 : Bk wa6 (w2.heap.size) 24 #[.bool s_3, .slice A_3 n_3 c_3] := by
    have := (((Bk.new w2 24 #[.bool s_3, .slice A_3 n_3 c_3]).alloc (.cells #[.bool s_4, .slice A_4 n_4 c_4] 24)).alloc (.cells #[.bool s_5, .slice A_5 n_5 c_5] 24))
    rw [hwa6]; simpa using this
  have hk9 : Bk wa6 (w2.heap.size + 1) 24 #[.bool s_4, .slice A_4 n_4 c_4] := by
    have := ((Bk.new (w2.alloc (.cells #[.bool s_3, .slice A_3 n_3 c_3] 24)) 24 #[.bool s_4, .slice A_4 n_4 c_4]).alloc (.cells #[.bool s_5, .slice A_5 n_5 c_5] 24))
    rw [hwa6]; simpa using this
  have hk10 : Bk wa6 (w2.heap.size + 1 + 1) 24 #[.bool s_5, .slice A_5 n_5 c_5] := by
    have := (Bk.new ((w2.alloc (.cells #[.bool s_3, .slice A_3 n_3 c_3] 24)).alloc (.cells #[.bool s_4, .slice A_4 n_4 c_4] 24)) 24 #[.bool s_5, .slice A_5 n_5 c_5])
    rw [hwa6]; simpa using this
  rw [← hwa6]
  clear hwa6
  refine (negQ h_4).mono ?_
  rintro e w7 ⟨v_8, rfl, h_8, hup⟩
  replace hk6 := hk6.up hup
  replace hk8 := hk8.up hup
  replace hk9 := hk9.up hup
  replace hk10 := hk10.up hup
  replace h_3 := h_3.up hup
  replace h_5 := h_5.up hup
  replace hupw := hupw.trans hup
  clear hup
  obtain ⟨s_8, A_8, n_8, c_8, rfl⟩ := h_8.agg
  have hk8c0 := hk8.cell (i := 0) rfl
  have hk8c1 := hk8.cell (i := 1) rfl
  have hk8l := hk8.lt
  have hk9c0 := hk9.cell (i := 0) rfl
  have hk9c1 := hk9.cell (i := 1) rfl
  have hk9l := hk9.lt
  have hk9f0 := hk9.frozen 0
  have hk9f1 := hk9.frozen 1
  go_wp2_with fail
  clear hk8c0 hk8c1 hk8l hk9c0 hk9c1 hk9l hk9f0 hk9f1
  obtain ⟨ws9, hws9⟩ : ∃ x, x = ((w7.setCell ⟨(w2.heap.size + 1), 0, none⟩ (.bool s_8)).setCell ⟨(w2.heap.size + 1), 1, none⟩ (.slice A_8 n_8 c_8)) := ⟨_, rfl⟩
  have h_3' := h_3.st2 hk9 (noU2 _ _ _ _) (.bool s_8) (.slice A_8 n_8 c_8)
  have h_5' := h_5.st2 hk9 (noU2 _ _ _ _) (.bool s_8) (.slice A_8 n_8 c_8)
  have h_8' := h_8.st2 hk9 (noU2 _ _ _ _) (.bool s_8) (.slice A_8 n_8 c_8)
  rw [← hws9] at h_3'
  clear h_3
  have h_3 := h_3'
  clear h_3'
  rw [← hws9] at h_5'
  clear h_5
  have h_5 := h_5'
  clear h_5'
  rw [← hws9] at h_8'
  clear h_8
  have h_8 := h_8'
  clear h_8'
  replace hk6 := hk6.far2 (g' := (w2.heap.size + 1)) (by omega) (.bool s_8) (.slice A_8 n_8 c_8)
  rw [← hws9] at hk6
  replace hk10 := hk10.far2 (g' := (w2.heap.size + 1)) (by omega) (.bool s_8) (.slice A_8 n_8 c_8)
  rw [← hws9] at hk10
  replace hupw := hupw.two (g := (w2.heap.size + 1)) (by omega) (.bool s_8) (.slice A_8 n_8 c_8)
  rw [← hws9] at hupw
  have hszws9 : ws9.heap.size = w7.heap.size := by rw [hws9]; simp
  rw [← hws9]
  clear hws9
  clear hszws9
  refine (raddQ h_3 h_8 hz).mono ?_
  rintro e w10 ⟨v_11, rfl, h_11, hup⟩
  replace hk6 := hk6.up hup
  replace hk10 := hk10.up hup
  replace h_5 := h_5.up hup
  replace hupw := hupw.trans hup
  clear hup
  obtain ⟨s_11, A_11, n_11, c_11, rfl⟩ := h_11.agg
  have hk10c0 := hk10.cell (i := 0) rfl
  have hk10c1 := hk10.cell (i := 1) rfl
  have hk10l := hk10.lt
  go_wp2_with fail
  clear hk10c0 hk10c1 hk10l
  obtain ⟨wa12, hwa12⟩ : ∃ x, x = (w10.alloc (.cells #[.bool s_11, .slice A_11 n_11 c_11] 24)) := ⟨_, rfl⟩
  have hup : Up w10 wa12 := by rw [hwa12]; exact ((Up.refl w10).alloc _)
  have howa12 : (w2.heap.size + 1 + 1) < w10.heap.size := hk10.lt
  have hzwa12 : w.heap.size ≤ w10.heap.size := hupw.size
  replace hk6 := hk6.up hup
  replace hk10 := hk10.up hup
  replace h_5 := h_5.up hup
  replace h_11 := h_11.up hup
  replace hupw := hupw.trans hup
  clear hup
  have hk12 : Bk wa12 (w10.heap.size) 24 #[.bool s_11, .slice A_11 n_11 c_11] := by
    have := (Bk.new w10 24 #[.bool s_11, .slice A_11 n_11 c_11])
    rw [hwa12]; simpa using this
  rw [← hwa12]
  clear hwa12
  refine (rsignQ 1 h_5 (by unfold den0; rw [hd]; exact Int.sign_eq_one_of_pos (Int.mul_pos (dn_pos a) (dn_pos b)))).mono ?_
  rintro e w13 ⟨rfl, hup⟩
  replace hk6 := hk6.up hup
  replace hk10 := hk10.up hup
  replace hk12 := hk12.up hup
  replace h_5 := h_5.up hup
  replace h_11 := h_11.up hup
  replace hupw := hupw.trans hup
  clear hup
  have hk12c0 := hk12.cell (i := 0) rfl
  have hk12c1 := hk12.cell (i := 1) rfl
  have hk12l := hk12.lt
  have hk10c0 := hk10.cell (i := 0) rfl
  have hk10c1 := hk10.cell (i := 1) rfl
  have hk10l := hk10.lt
  go_wp2_with fail
  clear hk12c0 hk12c1 hk12l hk10c0 hk10c1 hk10l
  refine (rmakeQ h_11 h_5).mono ?_
  rintro e w14 ⟨vf, rfl, hf, hup⟩
  replace hk6 := hk6.up hup
  replace hupw := hupw.trans hup
  clear hup
  obtain ⟨s_15, A_15, n_15, c_15, s_16, A_16, n_16, c_16, rfl, h_15, h_16⟩ := hf
  have hk6c0 := hk6.cell (i := 0) rfl
  have hk6c1 := hk6.cell (i := 1) rfl
  have hk6c2 := hk6.cell (i := 2) rfl
  have hk6c3 := hk6.cell (i := 3) rfl
  have hk6l := hk6.lt
  have hk6f0 := hk6.frozen 0
  have hk6f1 := hk6.frozen 1
  have hk6f2 := hk6.frozen 2
  have hk6f3 := hk6.frozen 3
  go_wp2_with fail
  clear hk6c0 hk6c1 hk6c2 hk6c3 hk6l hk6f0 hk6f1 hk6f2 hk6f3
  obtain ⟨ws17, hws17⟩ : ∃ x, x = (st4 w14 (w.heap.size + 1 + 1) (.bool s_15) (.slice A_15 n_15 c_15) (.bool s_16) (.slice A_16 n_16 c_16)) := ⟨_, rfl⟩
  have h_15' := h_15.st4 hk6 (noU4 _ _ _ _ _ _ _ _) (.bool s_15) (.slice A_15 n_15 c_15) (.bool s_16) (.slice A_16 n_16 c_16)
  have h_16' := h_16.st4 hk6 (noU4 _ _ _ _ _ _ _ _) (.bool s_15) (.slice A_15 n_15 c_15) (.bool s_16) (.slice A_16 n_16 c_16)
  rw [← hws17] at h_15'
  clear h_15
  have h_15 := h_15'
  clear h_15'
  rw [← hws17] at h_16'
  clear h_16
  have h_16 := h_16'
  clear h_16'
  replace hupw := hupw.st4 (g := (w.heap.size + 1 + 1)) (by omega) (.bool s_15) (.slice A_15 n_15 c_15) (.bool s_16) (.slice A_16 n_16 c_16)
  rw [← hws17] at hupw
  replace hk6 := hk6.four (.bool s_15) (.slice A_15 n_15 c_15) (.bool s_16) (.slice A_16 n_16 c_16)
  rw [← hws17] at hk6
  have hszws17 : ws17.heap.size = w14.heap.size := by rw [hws17]; simp [st4]
  unfold st4 at hws17
  rw [← hws17]
  clear hws17
  clear hszws17
  have hk6c0 := hk6.cell (i := 0) rfl
  have hk6c1 := hk6.cell (i := 1) rfl
  have hk6c2 := hk6.cell (i := 2) rfl
  have hk6c3 := hk6.cell (i := 3) rfl
  exact bodyPost_ret (v := .tuple #[.agg #[.bool s_15, .slice A_15 n_15 c_15, .bool s_16, .slice A_16 n_16 c_16], .int .i64 (makeR (nm a * dn b + -(nm b * dn a)) (den0 a b)).e]) (by simp [results, Tryz.results72, go_sem, hk6c0, hk6c1, hk6c2, hk6c3]) rfl ⟨_, rfl, Fz.mk h_15 h_16, hupw⟩
theorem rsumsQ {w : World} {v v' : Value} {a b : Rat} (h : Rz w v a) (h' : Rz w v' b) : Calls Tryz.prog 72 #[v, v', .bool true] w (PR w (subR a b)) := by
  have e : subR a b = comR a b (nm a * dn b + -(nm b * dn a)) := by unfold subR; rw [Int.sub_eq_add_neg]
  rw [e]
  cases hc : crossB a b with
  | false => exact (rsums_1 v v' w h h' hc).mono fun _ _ hr => PR.of hr (by unfold crossB at hc; unfold comR; rw [hc]; rfl)
  | true =>
    have hc2 := hc
    unfold crossB at hc2
    cases hz : okB (nm a * dn b + -(nm b * dn a)) with
    | false => exact (rsums_2 v v' w h h' hc hz).mono fun _ _ hr => PR.of hr (by unfold comR; rw [hc2, hz]; rfl)
    | true =>
      cases hd : okB (dn a * dn b) with
      | false => exact (rsums_3 v v' w h h' hc hz hd).mono fun _ _ hr => PR.of hr (by unfold comR; rw [hc2, hz, hd]; rfl)
      | true =>
        have e2 : makeR (nm a * dn b + -(nm b * dn a)) (den0 a b) = comR a b (nm a * dn b + -(nm b * dn a)) := by
          unfold makeR den0 comR
          rw [hc2, hz, hd]
          have hne := dn_mul_ne a b
          simp only [if_true, Bool.and_self]
          rw [if_neg hne]
        rw [← e2]
        exact rsums_4 v v' w h h' hc hz hd
set_option maxRecDepth 100000 in
set_option maxHeartbeats 4000000 in
theorem raddRQ {a b : Rat} (v0 v1 : Value) (w : World) (f0 : Fz w v0 (nm a) (dn a)) (f1 : Fz w v1 (nm b) (dn b)) :
    Calls Tryz.prog 31 #[v0, v1] w (PR w (addR a b)) := by
  obtain ⟨s0, A0, n0, c0, t0, B0, m0, d0, rfl, h0, k0⟩ := f0
  obtain ⟨s1, A1, n1, c1, t1, B1, m1, d1, rfl, h1, k1⟩ := f1
  have hupw : Up w w := Up.refl w
  go_enter Tryz.func31, Tryz.ntmps31
  go_wp2_with fail
  obtain ⟨wa1, hwa1⟩ : ∃ x, x = (((w.alloc (.cells #[.bool s0, .slice A0 n0 c0, .bool t0, .slice B0 m0 d0] 29)).alloc (.cells #[.bool s1, .slice A1 n1 c1, .bool t1, .slice B1 m1 d1] 29)).alloc (.cells #[.bool false, .slice none 0 0, .bool false, .slice none 0 0] 29)) := ⟨_, rfl⟩
  have hup : Up w wa1 := by rw [hwa1]; exact ((((Up.refl w).alloc _).alloc _).alloc _)
  have hzwa1 : w.heap.size ≤ w.heap.size := hupw.size
  replace h0 := h0.up hup
  replace k0 := k0.up hup
  replace h1 := h1.up hup
  replace k1 := k1.up hup
  replace hupw := hupw.trans hup
  clear hup
  have hk2 : Bk wa1 (w.heap.size) 29 #[.bool s0, .slice A0 n0 c0, .bool t0, .slice B0 m0 d0] := by
    have := (((Bk.new w 29 #[.bool s0, .slice A0 n0 c0, .bool t0, .slice B0 m0 d0]).alloc (.cells #[.bool s1, .slice A1 n1 c1, .bool t1, .slice B1 m1 d1] 29)).alloc (.cells #[.bool false, .slice none 0 0, .bool false, .slice none 0 0] 29))
    rw [hwa1]; simpa using this
  have hk3 : Bk wa1 (w.heap.size + 1) 29 #[.bool s1, .slice A1 n1 c1, .bool t1, .slice B1 m1 d1] := by
    have := ((Bk.new (w.alloc (.cells #[.bool s0, .slice A0 n0 c0, .bool t0, .slice B0 m0 d0] 29)) 29 #[.bool s1, .slice A1 n1 c1, .bool t1, .slice B1 m1 d1]).alloc (.cells #[.bool false, .slice none 0 0, .bool false, .slice none 0 0] 29))
    rw [hwa1]; simpa using this
  have hk4 : Bk wa1 (w.heap.size + 1 + 1) 29 #[.bool false, .slice none 0 0, .bool false, .slice none 0 0] := by
    have := (Bk.new ((w.alloc (.cells #[.bool s0, .slice A0 n0 c0, .bool t0, .slice B0 m0 d0] 29)).alloc (.cells #[.bool s1, .slice A1 n1 c1, .bool t1, .slice B1 m1 d1] 29)) 29 #[.bool false, .slice none 0 0, .bool false, .slice none 0 0])
    rw [hwa1]; simpa using this
  rw [← hwa1]
  clear hwa1
  refine (rsumaQ (Fz.mk h0 k0) (Fz.mk h1 k1)).mono ?_
  rintro e w2 ⟨vf, rfl, hf, hup⟩
  replace hk4 := hk4.up hup
  replace hupw := hupw.trans hup
  clear hup
  obtain ⟨s_3, A_3, n_3, c_3, s_4, A_4, n_4, c_4, rfl, h_3, h_4⟩ := hf
  have hk4c0 := hk4.cell (i := 0) rfl
  have hk4c1 := hk4.cell (i := 1) rfl
  have hk4c2 := hk4.cell (i := 2) rfl
  have hk4c3 := hk4.cell (i := 3) rfl
  have hk4l := hk4.lt
  have hk4f0 := hk4.frozen 0
  have hk4f1 := hk4.frozen 1
  have hk4f2 := hk4.frozen 2
  have hk4f3 := hk4.frozen 3
  go_wp2_with fail
  clear hk4c0 hk4c1 hk4c2 hk4c3 hk4l hk4f0 hk4f1 hk4f2 hk4f3
  obtain ⟨ws5, hws5⟩ : ∃ x, x = (st4 w2 (w.heap.size + 1 + 1) (.bool s_3) (.slice A_3 n_3 c_3) (.bool s_4) (.slice A_4 n_4 c_4)) := ⟨_, rfl⟩
  have h_3' := h_3.st4 hk4 (noU4 _ _ _ _ _ _ _ _) (.bool s_3) (.slice A_3 n_3 c_3) (.bool s_4) (.slice A_4 n_4 c_4)
  have h_4' := h_4.st4 hk4 (noU4 _ _ _ _ _ _ _ _) (.bool s_3) (.slice A_3 n_3 c_3) (.bool s_4) (.slice A_4 n_4 c_4)
  rw [← hws5] at h_3'
  clear h_3
  have h_3 := h_3'
  clear h_3'
  rw [← hws5] at h_4'
  clear h_4
  have h_4 := h_4'
  clear h_4'
  replace hupw := hupw.st4 (g := (w.heap.size + 1 + 1)) (by omega) (.bool s_3) (.slice A_3 n_3 c_3) (.bool s_4) (.slice A_4 n_4 c_4)
  rw [← hws5] at hupw
  replace hk4 := hk4.four (.bool s_3) (.slice A_3 n_3 c_3) (.bool s_4) (.slice A_4 n_4 c_4)
  rw [← hws5] at hk4
  have hszws5 : ws5.heap.size = w2.heap.size := by rw [hws5]; simp [st4]
  unfold st4 at hws5
  rw [← hws5]
  clear hws5
  clear hszws5
  have hk4c0 := hk4.cell (i := 0) rfl
  have hk4c1 := hk4.cell (i := 1) rfl
  have hk4c2 := hk4.cell (i := 2) rfl
  have hk4c3 := hk4.cell (i := 3) rfl
  exact bodyPost_ret (v := .tuple #[.agg #[.bool s_3, .slice A_3 n_3 c_3, .bool s_4, .slice A_4 n_4 c_4], .int .i64 (addR a b).e]) (by simp [results, Tryz.results31, go_sem, hk4c0, hk4c1, hk4c2, hk4c3]) rfl ⟨_, rfl, Fz.mk h_3 h_4, hupw⟩
set_option maxRecDepth 100000 in
set_option maxHeartbeats 4000000 in
theorem rsubRQ {a b : Rat} (v0 v1 : Value) (w : World) (f0 : Fz w v0 (nm a) (dn a)) (f1 : Fz w v1 (nm b) (dn b)) :
    Calls Tryz.prog 32 #[v0, v1] w (PR w (subR a b)) := by
  obtain ⟨s0, A0, n0, c0, t0, B0, m0, d0, rfl, h0, k0⟩ := f0
  obtain ⟨s1, A1, n1, c1, t1, B1, m1, d1, rfl, h1, k1⟩ := f1
  have hupw : Up w w := Up.refl w
  go_enter Tryz.func32, Tryz.ntmps32
  go_wp2_with fail
  obtain ⟨wa1, hwa1⟩ : ∃ x, x = (((w.alloc (.cells #[.bool s0, .slice A0 n0 c0, .bool t0, .slice B0 m0 d0] 29)).alloc (.cells #[.bool s1, .slice A1 n1 c1, .bool t1, .slice B1 m1 d1] 29)).alloc (.cells #[.bool false, .slice none 0 0, .bool false, .slice none 0 0] 29)) := ⟨_, rfl⟩
  have hup : Up w wa1 := by rw [hwa1]; exact ((((Up.refl w).alloc _).alloc _).alloc _)
  have hzwa1 : w.heap.size ≤ w.heap.size := hupw.size
  replace h0 := h0.up hup
  replace k0 := k0.up hup
  replace h1 := h1.up hup
  replace k1 := k1.up hup
  replace hupw := hupw.trans hup
  clear hup
  have hk2 : Bk wa1 (w.heap.size) 29 #[.bool s0, .slice A0 n0 c0, .bool t0, .slice B0 m0 d0] := by
    have := (((Bk.new w 29 #[.bool s0, .slice A0 n0 c0, .bool t0, .slice B0 m0 d0]).alloc (.cells #[.bool s1, .slice A1 n1 c1, .bool t1, .slice B1 m1 d1] 29)).alloc (.cells #[.bool false, .slice none 0 0, .bool false, .slice none 0 0] 29))
    rw [hwa1]; simpa using this
  have hk3 : Bk wa1 (w.heap.size + 1) 29 #[.bool s1, .slice A1 n1 c1, .bool t1, .slice B1 m1 d1] := by
    have := ((Bk.new (w.alloc (.cells #[.bool s0, .slice A0 n0 c0, .bool t0, .slice B0 m0 d0] 29)) 29 #[.bool s1, .slice A1 n1 c1, .bool t1, .slice B1 m1 d1]).alloc (.cells #[.bool false, .slice none 0 0, .bool false, .slice none 0 0] 29))
    rw [hwa1]; simpa using this
  have hk4 : Bk wa1 (w.heap.size + 1 + 1) 29 #[.bool false, .slice none 0 0, .bool false, .slice none 0 0] := by
    have := (Bk.new ((w.alloc (.cells #[.bool s0, .slice A0 n0 c0, .bool t0, .slice B0 m0 d0] 29)).alloc (.cells #[.bool s1, .slice A1 n1 c1, .bool t1, .slice B1 m1 d1] 29)) 29 #[.bool false, .slice none 0 0, .bool false, .slice none 0 0])
    rw [hwa1]; simpa using this
  rw [← hwa1]
  clear hwa1
  refine (rsumsQ (Fz.mk h0 k0) (Fz.mk h1 k1)).mono ?_
  rintro e w2 ⟨vf, rfl, hf, hup⟩
  replace hk4 := hk4.up hup
  replace hupw := hupw.trans hup
  clear hup
  obtain ⟨s_3, A_3, n_3, c_3, s_4, A_4, n_4, c_4, rfl, h_3, h_4⟩ := hf
  have hk4c0 := hk4.cell (i := 0) rfl
  have hk4c1 := hk4.cell (i := 1) rfl
  have hk4c2 := hk4.cell (i := 2) rfl
  have hk4c3 := hk4.cell (i := 3) rfl
  have hk4l := hk4.lt
  have hk4f0 := hk4.frozen 0
  have hk4f1 := hk4.frozen 1
  have hk4f2 := hk4.frozen 2
  have hk4f3 := hk4.frozen 3
  go_wp2_with fail
  clear hk4c0 hk4c1 hk4c2 hk4c3 hk4l hk4f0 hk4f1 hk4f2 hk4f3
  obtain ⟨ws5, hws5⟩ : ∃ x, x = (st4 w2 (w.heap.size + 1 + 1) (.bool s_3) (.slice A_3 n_3 c_3) (.bool s_4) (.slice A_4 n_4 c_4)) := ⟨_, rfl⟩
  have h_3' := h_3.st4 hk4 (noU4 _ _ _ _ _ _ _ _) (.bool s_3) (.slice A_3 n_3 c_3) (.bool s_4) (.slice A_4 n_4 c_4)
  have h_4' := h_4.st4 hk4 (noU4 _ _ _ _ _ _ _ _) (.bool s_3) (.slice A_3 n_3 c_3) (.bool s_4) (.slice A_4 n_4 c_4)
  rw [← hws5] at h_3'
  clear h_3
  have h_3 := h_3'
  clear h_3'
  rw [← hws5] at h_4'
  clear h_4
  have h_4 := h_4'
  clear h_4'
  replace hupw := hupw.st4 (g := (w.heap.size + 1 + 1)) (by omega) (.bool s_3) (.slice A_3 n_3 c_3) (.bool s_4) (.slice A_4 n_4 c_4)
  rw [← hws5] at hupw
  replace hk4 := hk4.four (.bool s_3) (.slice A_3 n_3 c_3) (.bool s_4) (.slice A_4 n_4 c_4)
  rw [← hws5] at hk4
  have hszws5 : ws5.heap.size = w2.heap.size := by rw [hws5]; simp [st4]
  unfold st4 at hws5
  rw [← hws5]
  clear hws5
  clear hszws5
  have hk4c0 := hk4.cell (i := 0) rfl
  have hk4c1 := hk4.cell (i := 1) rfl
  have hk4c2 := hk4.cell (i := 2) rfl
  have hk4c3 := hk4.cell (i := 3) rfl
  exact bodyPost_ret (v := .tuple #[.agg #[.bool s_3, .slice A_3 n_3 c_3, .bool s_4, .slice A_4 n_4 c_4], .int .i64 (subR a b).e]) (by simp [results, Tryz.results32, go_sem, hk4c0, hk4c1, hk4c2, hk4c3]) rfl ⟨_, rfl, Fz.mk h_3 h_4, hupw⟩
set_option maxRecDepth 100000 in
set_option maxHeartbeats 4000000 in
theorem rmulR_1 {a b : Rat} (v0 v1 : Value) (w : World) (f0 : Fz w v0 (nm a) (dn a)) (f1 : Fz w v1 (nm b) (dn b)) (hb : okB (nm a * nm b) = false) :
    Calls Tryz.prog 33 #[v0, v1] w (PFE w 0 0 3) := by
  obtain ⟨s0, A0, n0, c0, t0, B0, m0, d0, rfl, h0, k0⟩ := f0
  obtain ⟨s1, A1, n1, c1, t1, B1, m1, d1, rfl, h1, k1⟩ := f1
  have hupw : Up w w := Up.refl w
  go_enter Tryz.func33, Tryz.ntmps33
  go_wp2_with fail
  obtain ⟨wa1, hwa1⟩ : ∃ x, x = (((w.alloc (.cells #[.bool s0, .slice A0 n0 c0, .bool t0, .slice B0 m0 d0] 29)).alloc (.cells #[.bool s1, .slice A1 n1 c1, .bool t1, .slice B1 m1 d1] 29)).alloc (.cells #[.bool false, .slice none 0 0, .bool false, .slice none 0 0] 29)) := ⟨_, rfl⟩
  have hup : Up w wa1 := by rw [hwa1]; exact ((((Up.refl w).alloc _).alloc _).alloc _)
  have hzwa1 : w.heap.size ≤ w.heap.size := hupw.size
  replace h0 := h0.up hup
  replace k0 := k0.up hup
  replace h1 := h1.up hup
  replace k1 := k1.up hup
  replace hupw := hupw.trans hup
  clear hup
  have hk2 : Bk wa1 (w.heap.size) 29 #[.bool s0, .slice A0 n0 c0, .bool t0, .slice B0 m0 d0] := by
    have := (((Bk.new w 29 #[.bool s0, .slice A0 n0 c0, .bool t0, .slice B0 m0 d0]).alloc (.cells #[.bool s1, .slice A1 n1 c1, .bool t1, .slice B1 m1 d1] 29)).alloc (.cells #[.bool false, .slice none 0 0, .bool false, .slice none 0 0] 29))
    rw [hwa1]; simpa using this
  have hk3 : Bk wa1 (w.heap.size + 1) 29 #[.bool s1, .slice A1 n1 c1, .bool t1, .slice B1 m1 d1] := by
    have := ((Bk.new (w.alloc (.cells #[.bool s0, .slice A0 n0 c0, .bool t0, .slice B0 m0 d0] 29)) 29 #[.bool s1, .slice A1 n1 c1, .bool t1, .slice B1 m1 d1]).alloc (.cells #[.bool false, .slice none 0 0, .bool false, .slice none 0 0] 29))
    rw [hwa1]; simpa using this
  have hk4 : Bk wa1 (w.heap.size + 1 + 1) 29 #[.bool false, .slice none 0 0, .bool false, .slice none 0 0] := by
    have := (Bk.new ((w.alloc (.cells #[.bool s0, .slice A0 n0 c0, .bool t0, .slice B0 m0 d0] 29)).alloc (.cells #[.bool s1, .slice A1 n1 c1, .bool t1, .slice B1 m1 d1] 29)) 29 #[.bool false, .slice none 0 0, .bool false, .slice none 0 0])
    rw [hwa1]; simpa using this
  rw [← hwa1]
  clear hwa1
  refine (rvalidRQ (Fz.mk h0 k0)).mono ?_
  rintro e w2 ⟨rfl, hup⟩
  replace hk2 := hk2.up hup
  replace hk3 := hk3.up hup
  replace hk4 := hk4.up hup
  replace h0 := h0.up hup
  replace k0 := k0.up hup
  replace h1 := h1.up hup
  replace k1 := k1.up hup
  replace hupw := hupw.trans hup
  clear hup
  have hk3c0 := hk3.cell (i := 0) rfl
  have hk3c1 := hk3.cell (i := 1) rfl
  have hk3c2 := hk3.cell (i := 2) rfl
  have hk3c3 := hk3.cell (i := 3) rfl
  have hk3l := hk3.lt
  go_wp2_with fail
  clear hk3c0 hk3c1 hk3c2 hk3c3 hk3l
  refine (rvalidRQ (Fz.mk h1 k1)).mono ?_
  rintro e w3 ⟨rfl, hup⟩
  replace hk2 := hk2.up hup
  replace hk3 := hk3.up hup
  replace hk4 := hk4.up hup
  replace h0 := h0.up hup
  replace k0 := k0.up hup
  replace h1 := h1.up hup
  replace k1 := k1.up hup
  replace hupw := hupw.trans hup
  clear hup
  have hk2c0 := hk2.cell (i := 0) rfl
  have hk2c1 := hk2.cell (i := 1) rfl
  have hk2c2 := hk2.cell (i := 2) rfl
  have hk2c3 := hk2.cell (i := 3) rfl
  have hk2l := hk2.lt
  have hk3c0 := hk3.cell (i := 0) rfl
  have hk3c1 := hk3.cell (i := 1) rfl
  have hk3c2 := hk3.cell (i := 2) rfl
  have hk3c3 := hk3.cell (i := 3) rfl
  have hk3l := hk3.lt
  go_wp2_with fail
  clear hk2c0 hk2c1 hk2c2 hk2c3 hk2l hk3c0 hk3c1 hk3c2 hk3c3 hk3l
  refine (rmulN h0 h1 hb).mono ?_
  rintro e w4 ⟨v_5, rfl, h_5, hup⟩
  replace hk2 := hk2.up hup
  replace hk3 := hk3.up hup
  replace hk4 := hk4.up hup
  replace k0 := k0.up hup
  replace k1 := k1.up hup
  replace hupw := hupw.trans hup
  clear hup
  obtain ⟨s_5, A_5, n_5, c_5, rfl⟩ := h_5.agg
  have hk2c0 := hk2.cell (i := 0) rfl
  have hk2c1 := hk2.cell (i := 1) rfl
  have hk2c2 := hk2.cell (i := 2) rfl
  have hk2c3 := hk2.cell (i := 3) rfl
  have hk2l := hk2.lt
  have hk3c0 := hk3.cell (i := 0) rfl
  have hk3c1 := hk3.cell (i := 1) rfl
  have hk3c2 := hk3.cell (i := 2) rfl
  have hk3c3 := hk3.cell (i := 3) rfl
  have hk3l := hk3.lt
  go_wp2_with fail
  clear hk2c0 hk2c1 hk2c2 hk2c3 hk2l hk3c0 hk3c1 hk3c2 hk3c3 hk3l
  obtain ⟨wa6, hwa6⟩ : ∃ x, x = (w4.alloc (.cells #[.bool s_5, .slice A_5 n_5 c_5] 24)) := ⟨_, rfl⟩
  have hup : Up w4 wa6 := by rw [hwa6]; exact ((Up.refl w4).alloc _)
  have howa6 : (w.heap.size + 1 + 1) < w4.heap.size := hk4.lt
  have hzwa6 : w.heap.size ≤ w4.heap.size := hupw.size
  replace hk4 := hk4.up hup
  replace k0 := k0.up hup
  replace k1 := k1.up hup
  replace hupw := hupw.trans hup
  clear hup
  have hk6 : Bk wa6 (w4.heap.size) 24 #[.bool s_5, .slice A_5 n_5 c_5] := by
    have := (Bk.new w4 24 #[.bool s_5, .slice A_5 n_5 c_5])
    rw [hwa6]; simpa using this
  rw [← hwa6]
  clear hwa6
  refine (rmulE k0 k1).mono ?_
  rintro e w7 ⟨v_8, rfl, h_8, hup⟩
  replace hk4 := hk4.up hup
  replace hk6 := hk6.up hup
  replace hupw := hupw.trans hup
  clear hup
  obtain ⟨s_8, A_8, n_8, c_8, rfl⟩ := h_8.agg
  have hk4c0 := hk4.cell (i := 0) rfl
  have hk4c1 := hk4.cell (i := 1) rfl
  have hk4c2 := hk4.cell (i := 2) rfl
  have hk4c3 := hk4.cell (i := 3) rfl
  have hk4l := hk4.lt
  have hk4f0 := hk4.frozen 0
  have hk4f1 := hk4.frozen 1
  have hk4f2 := hk4.frozen 2
  have hk4f3 := hk4.frozen 3
  go_wp2_with fail
  clear hk4c0 hk4c1 hk4c2 hk4c3 hk4l hk4f0 hk4f1 hk4f2 hk4f3
  obtain ⟨ws9, hws9⟩ : ∃ x, x = (st4 w7 (w.heap.size + 1 + 1) (.bool false) (.slice none 0 0) (.bool false) (.slice none 0 0)) := ⟨_, rfl⟩
  replace hk6 := hk6.far4 (g' := (w.heap.size + 1 + 1)) (by omega) (.bool false) (.slice none 0 0) (.bool false) (.slice none 0 0)
  rw [← hws9] at hk6
  replace hupw := hupw.st4 (g := (w.heap.size + 1 + 1)) (by omega) (.bool false) (.slice none 0 0) (.bool false) (.slice none 0 0)
  rw [← hws9] at hupw
  replace hk4 := hk4.four (.bool false) (.slice none 0 0) (.bool false) (.slice none 0 0)
  rw [← hws9] at hk4
  have hszws9 : ws9.heap.size = w7.heap.size := by rw [hws9]; simp [st4]
  unfold st4 at hws9
  rw [← hws9]
  clear hws9
  obtain ⟨wa10, hwa10⟩ : ∃ x, x = (ws9.alloc (.cells #[.bool s_8, .slice A_8 n_8 c_8] 24)) := ⟨_, rfl⟩
  have hup : Up ws9 wa10 := by rw [hwa10]; exact ((Up.refl ws9).alloc _)
  have howa10 : w4.heap.size < w7.heap.size := by have := hk6.lt; omega
  have hzwa10 : w.heap.size ≤ w7.heap.size := by have := hupw.size; omega
  replace hk4 := hk4.up hup
  replace hupw := hupw.trans hup
  clear hup
  have hk8 : Bk wa10 (w7.heap.size) 24 #[.bool s_8, .slice A_8 n_8 c_8] := by
    have := (Bk.new ws9 24 #[.bool s_8, .slice A_8 n_8 c_8])
    rw [hwa10]; simpa [hszws9] using this
  rw [← hwa10]
  clear hwa10
  clear hszws9
  have hk4c0 := hk4.cell (i := 0) rfl
  have hk4c1 := hk4.cell (i := 1) rfl
  have hk4c2 := hk4.cell (i := 2) rfl
  have hk4c3 := hk4.cell (i := 3) rfl
  exact bodyPost_ret (v := .tuple #[.agg #[.bool false, .slice none 0 0, .bool false, .slice none 0 0], .int .i64 3]) (by simp [results, Tryz.results33, go_sem, hk4c0, hk4c1, hk4c2, hk4c3]) rfl ⟨_, rfl, Fz.mk (Iz.zero _) (Iz.zero _), hupw⟩
set_option maxRecDepth 100000 in
set_option maxHeartbeats 4000000 in
theorem rmulR_2 {a b : Rat} (v0 v1 : Value) (w : World) (f0 : Fz w v0 (nm a) (dn a)) (f1 : Fz w v1 (nm b) (dn b)) (hb : okB (nm a * nm b) = true) (hd : okB (dn a * dn b) = false) :
    Calls Tryz.prog 33 #[v0, v1] w (PFE w 0 0 3) := by
  obtain ⟨s0, A0, n0, c0, t0, B0, m0, d0, rfl, h0, k0⟩ := f0
  obtain ⟨s1, A1, n1, c1, t1, B1, m1, d1, rfl, h1, k1⟩ := f1
  have hupw : Up w w := Up.refl w
  go_enter Tryz.func33, Tryz.ntmps33
  go_wp2_with fail
  obtain ⟨wa1, hwa1⟩ : ∃ x, x = (((w.alloc (.cells #[.bool s0, .slice A0 n0 c0, .bool t0, .slice B0 m0 d0] 29)).alloc (.cells #[.bool s1, .slice A1 n1 c1, .bool t1, .slice B1 m1 d1] 29)).alloc (.cells #[.bool false, .slice none 0 0, .bool false, .slice none 0 0] 29)) := ⟨_, rfl⟩
  have hup : Up w wa1 := by rw [hwa1]; exact ((((Up.refl w).alloc _).alloc _).alloc _)
  have hzwa1 : w.heap.size ≤ w.heap.size := hupw.size
  replace h0 := h0.up hup
  replace k0 := k0.up hup
  replace h1 := h1.up hup
  replace k1 := k1.up hup
  replace hupw := hupw.trans hup
  clear hup
  have hk2 : Bk wa1 (w.heap.size) 29 #[.bool s0, .slice A0 n0 c0, .bool t0, .slice B0 m0 d0] := by
    have := (((Bk.new w 29 #[.bool s0, .slice A0 n0 c0, .bool t0, .slice B0 m0 d0]).alloc (.cells #[.bool s1, .slice A1 n1 c1, .bool t1, .slice B1 m1 d1] 29)).alloc (.cells #[.bool false, .slice none 0 0, .bool false, .slice none 0 0] 29))
    rw [hwa1]; simpa using this
  have hk3 : Bk wa1 (w.heap.size + 1) 29 #[.bool s1, .slice A1 n1 c1, .bool t1, .slice B1 m1 d1] := by
    have := ((Bk.new (w.alloc (.cells #[.bool s0, .slice A0 n0 c0, .bool t0, .slice B0 m0 d0] 29)) 29 #[.bool s1, .slice A1 n1 c1, .bool t1, .slice B1 m1 d1]).alloc (.cells #[.bool false, .slice none 0 0, .bool false, .slice none 0 0] 29))
    rw [hwa1]; simpa using this
  have hk4 : Bk wa1 (w.heap.size + 1 + 1) 29 #[.bool false, .slice none 0 0, .bool false, .slice none 0 0] := by
    have := (Bk.new ((w.alloc (.cells #[.bool s0, .slice A0 n0 c0, .bool t0, .slice B0 m0 d0] 29)).alloc (.cells #[.bool s1, .slice A1 n1 c1, .bool t1, .slice B1 m1 d1] 29)) 29 #[.bool false, .slice none 0 0, .bool false, .slice none 0 0])
    rw [hwa1]; simpa using this
  rw [← hwa1]
  clear hwa1
  refine (rvalidRQ (Fz.mk h0 k0)).mono ?_
  rintro e w2 ⟨rfl, hup⟩
  replace hk2 := hk2.up hup
  replace hk3 := hk3.up hup
  replace hk4 := hk4.up hup
  replace h0 := h0.up hup
  replace k0 := k0.up hup
  replace h1 := h1.up hup
  replace k1 := k1.up hup
  replace hupw := hupw.trans hup
  clear hup
  have hk3c0 := hk3.cell (i := 0) rfl
  have hk3c1 := hk3.cell (i := 1) rfl
  have hk3c2 := hk3.cell (i := 2) rfl
  have hk3c3 := hk3.cell (i := 3) rfl
  have hk3l := hk3.lt
  go_wp2_with fail
  clear hk3c0 hk3c1 hk3c2 hk3c3 hk3l
  refine (rvalidRQ (Fz.mk h1 k1)).mono ?_
  rintro e w3 ⟨rfl, hup⟩
  replace hk2 := hk2.up hup
  replace hk3 := hk3.up hup
  replace hk4 := hk4.up hup
  replace h0 := h0.up hup
  replace k0 := k0.up hup
  replace h1 := h1.up hup
  replace k1 := k1.up hup
  replace hupw := hupw.trans hup
  clear hup
  have hk2c0 := hk2.cell (i := 0) rfl
  have hk2c1 := hk2.cell (i := 1) rfl
  have hk2c2 := hk2.cell (i := 2) rfl
  have hk2c3 := hk2.cell (i := 3) rfl
  have hk2l := hk2.lt
  have hk3c0 := hk3.cell (i := 0) rfl
  have hk3c1 := hk3.cell (i := 1) rfl
  have hk3c2 := hk3.cell (i := 2) rfl
  have hk3c3 := hk3.cell (i := 3) rfl
  have hk3l := hk3.lt
  go_wp2_with fail
  clear hk2c0 hk2c1 hk2c2 hk2c3 hk2l hk3c0 hk3c1 hk3c2 hk3c3 hk3l
  refine (rmulQ h0 h1 hb).mono ?_
  rintro e w4 ⟨v_5, rfl, h_5, hup⟩
  replace hk2 := hk2.up hup
  replace hk3 := hk3.up hup
  replace hk4 := hk4.up hup
  replace k0 := k0.up hup
  replace k1 := k1.up hup
  replace hupw := hupw.trans hup
  clear hup
  obtain ⟨s_5, A_5, n_5, c_5, rfl⟩ := h_5.agg
  have hk2c0 := hk2.cell (i := 0) rfl
  have hk2c1 := hk2.cell (i := 1) rfl
  have hk2c2 := hk2.cell (i := 2) rfl
  have hk2c3 := hk2.cell (i := 3) rfl
  have hk2l := hk2.lt
  have hk3c0 := hk3.cell (i := 0) rfl
  have hk3c1 := hk3.cell (i := 1) rfl
  have hk3c2 := hk3.cell (i := 2) rfl
  have hk3c3 := hk3.cell (i := 3) rfl
  have hk3l := hk3.lt
  go_wp2_with fail
  clear hk2c0 hk2c1 hk2c2 hk2c3 hk2l hk3c0 hk3c1 hk3c2 hk3c3 hk3l
  obtain ⟨wa6, hwa6⟩ : ∃ x, x = (w4.alloc (.cells #[.bool s_5, .slice A_5 n_5 c_5] 24)) := ⟨_, rfl⟩
  have hup : Up w4 wa6 := by rw [hwa6]; exact ((Up.refl w4).alloc _)
  have howa6 : (w.heap.size + 1 + 1) < w4.heap.size := hk4.lt
  have hzwa6 : w.heap.size ≤ w4.heap.size := hupw.size
  replace hk4 := hk4.up hup
  replace k0 := k0.up hup
  replace k1 := k1.up hup
  replace hupw := hupw.trans hup
  clear hup
  have hk6 : Bk wa6 (w4.heap.size) 24 #[.bool s_5, .slice A_5 n_5 c_5] := by
    have := (Bk.new w4 24 #[.bool s_5, .slice A_5 n_5 c_5])
    rw [hwa6]; simpa using this
  rw [← hwa6]
  clear hwa6
  refine (rmulN k0 k1 hd).mono ?_
  rintro e w7 ⟨v_8, rfl, h_8, hup⟩
  replace hk4 := hk4.up hup
  replace hk6 := hk6.up hup
  replace hupw := hupw.trans hup
  clear hup
  obtain ⟨s_8, A_8, n_8, c_8, rfl⟩ := h_8.agg
  have hk4c0 := hk4.cell (i := 0) rfl
  have hk4c1 := hk4.cell (i := 1) rfl
  have hk4c2 := hk4.cell (i := 2) rfl
  have hk4c3 := hk4.cell (i := 3) rfl
  have hk4l := hk4.lt
  have hk4f0 := hk4.frozen 0
  have hk4f1 := hk4.frozen 1
  have hk4f2 := hk4.frozen 2
  have hk4f3 := hk4.frozen 3
  go_wp2_with fail
  clear hk4c0 hk4c1 hk4c2 hk4c3 hk4l hk4f0 hk4f1 hk4f2 hk4f3
  obtain ⟨ws9, hws9⟩ : ∃ x, x = (st4 w7 (w.heap.size + 1 + 1) (.bool false) (.slice none 0 0) (.bool false) (.slice none 0 0)) := ⟨_, rfl⟩
  replace hk6 := hk6.far4 (g' := (w.heap.size + 1 + 1)) (by omega) (.bool false) (.slice none 0 0) (.bool false) (.slice none 0 0)
  rw [← hws9] at hk6
  replace hupw := hupw.st4 (g := (w.heap.size + 1 + 1)) (by omega) (.bool false) (.slice none 0 0) (.bool false) (.slice none 0 0)
  rw [← hws9] at hupw
  replace hk4 := hk4.four (.bool false) (.slice none 0 0) (.bool false) (.slice none 0 0)
  rw [← hws9] at hk4
  have hszws9 : ws9.heap.size = w7.heap.size := by rw [hws9]; simp [st4]
  unfold st4 at hws9
  rw [← hws9]
  clear hws9
  obtain ⟨wa10, hwa10⟩ : ∃ x, x = (ws9.alloc (.cells #[.bool s_8, .slice A_8 n_8 c_8] 24)) := ⟨_, rfl⟩
  have hup : Up ws9 wa10 := by rw [hwa10]; exact ((Up.refl ws9).alloc _)
  have howa10 : w4.heap.size < w7.heap.size := by have := hk6.lt; omega
  have hzwa10 : w.heap.size ≤ w7.heap.size := by have := hupw.size; omega
  replace hk4 := hk4.up hup
  replace hupw := hupw.trans hup
  clear hup
  have hk8 : Bk wa10 (w7.heap.size) 24 #[.bool s_8, .slice A_8 n_8 c_8] := by
    have := (Bk.new ws9 24 #[.bool s_8, .slice A_8 n_8 c_8])
    rw [hwa10]; simpa [hszws9] using this
  rw [← hwa10]
  clear hwa10
  clear hszws9
  have hk4c0 := hk4.cell (i := 0) rfl
  have hk4c1 := hk4.cell (i := 1) rfl
  have hk4c2 := hk4.cell (i := 2) rfl
  have hk4c3 := hk4.cell (i := 3) rfl
  exact bodyPost_ret (v := .tuple #[.agg #[.bool false, .slice none 0 0, .bool false, .slice none 0 0], .int .i64 3]) (by simp [results, Tryz.results33, go_sem, hk4c0, hk4c1, hk4c2, hk4c3]) rfl ⟨_, rfl, Fz.mk (Iz.zero _) (Iz.zero _), hupw⟩
set_option maxRecDepth 100000 in
set_option maxHeartbeats 4000000 in
theorem rmulR_3 {a b : Rat} (v0 v1 : Value) (w : World) (f0 : Fz w v0 (nm a) (dn a)) (f1 : Fz w v1 (nm b) (dn b)) (hb : okB (nm a * nm b) = true) (hd : okB (dn a * dn b) = true) :
    Calls Tryz.prog 33 #[v0, v1] w (PR w (makeR (nm a * nm b) (dn a * dn b))) := by
  obtain ⟨s0, A0, n0, c0, t0, B0, m0, d0, rfl, h0, k0⟩ := f0
  obtain ⟨s1, A1, n1, c1, t1, B1, m1, d1, rfl, h1, k1⟩ := f1
  have hupw : Up w w := Up.refl w
  go_enter Tryz.func33, Tryz.ntmps33
  go_wp2_with fail
  obtain ⟨wa1, hwa1⟩ : ∃ x, x = (((w.alloc (.cells #[.bool s0, .slice A0 n0 c0, .bool t0, .slice B0 m0 d0] 29)).alloc (.cells #[.bool s1, .slice A1 n1 c1, .bool t1, .slice B1 m1 d1] 29)).alloc (.cells #[.bool false, .slice none 0 0, .bool false, .slice none 0 0] 29)) := ⟨_, rfl⟩
  have hup : Up w wa1 := by rw [hwa1]; exact ((((Up.refl w).alloc _).alloc _).alloc _)
  have hzwa1 : w.heap.size ≤ w.heap.size := hupw.size
  replace h0 := h0.up hup
  replace k0 := k0.up hup
  replace h1 := h1.up hup
  replace k1 := k1.up hup
  replace hupw := hupw.trans hup
  clear hup
  have hk2 : Bk wa1 (w.heap.size) 29 #[.bool s0, .slice A0 n0 c0, .bool t0, .slice B0 m0 d0] := by
    have := (((Bk.new w 29 #[.bool s0, .slice A0 n0 c0, .bool t0, .slice B0 m0 d0]).alloc (.cells #[.bool s1, .slice A1 n1 c1, .bool t1, .slice B1 m1 d1] 29)).alloc (.cells #[.bool false, .slice none 0 0, .bool false, .slice none 0 0] 29))
    rw [hwa1]; simpa using this
  have hk3 : Bk wa1 (w.heap.size + 1) 29 #[.bool s1, .slice A1 n1 c1, .bool t1, .slice B1 m1 d1] := by
    have := ((Bk.new (w.alloc (.cells #[.bool s0, .slice A0 n0 c0, .bool t0, .slice B0 m0 d0] 29)) 29 #[.bool s1, .slice A1 n1 c1, .bool t1, .slice B1 m1 d1]).alloc (.cells #[.bool false, .slice none 0 0, .bool false, .slice none 0 0] 29))
    rw [hwa1]; simpa using this
  have hk4 : Bk wa1 (w.heap.size + 1 + 1) 29 #[.bool false, .slice none 0 0, .bool false, .slice none 0 0] := by
    have := (Bk.new ((w.alloc (.cells #[.bool s0, .slice A0 n0 c0, .bool t0, .slice B0 m0 d0] 29)).alloc (.cells #[.bool s1, .slice A1 n1 c1, .bool t1, .slice B1 m1 d1] 29)) 29 #[.bool false, .slice none 0 0, .bool false, .slice none 0 0])
    rw [hwa1]; simpa using this
  rw [← hwa1]
  clear hwa1
  refine (rvalidRQ (Fz.mk h0 k0)).mono ?_
  rintro e w2 ⟨rfl, hup⟩
  replace hk2 := hk2.up hup
  replace hk3 := hk3.up hup
  replace hk4 := hk4.up hup
  replace h0 := h0.up hup
  replace k0 := k0.up hup
  replace h1 := h1.up hup
  replace k1 := k1.up hup
  replace hupw := hupw.trans hup
  clear hup
  have hk3c0 := hk3.cell (i := 0) rfl
  have hk3c1 := hk3.cell (i := 1) rfl
  have hk3c2 := hk3.cell (i := 2) rfl
  have hk3c3 := hk3.cell (i := 3) rfl
  have hk3l := hk3.lt
  go_wp2_with fail
  clear hk3c0 hk3c1 hk3c2 hk3c3 hk3l
  refine (rvalidRQ (Fz.mk h1 k1)).mono ?_
  rintro e w3 ⟨rfl, hup⟩
  replace hk2 := hk2.up hup
  replace hk3 := hk3.up hup
  replace hk4 := hk4.up hup
  replace h0 := h0.up hup
  replace k0 := k0.up hup
  replace h1 := h1.up hup
  replace k1 := k1.up hup
  replace hupw := hupw.trans hup
  clear hup
  have hk2c0 := hk2.cell (i := 0) rfl
  have hk2c1 := hk2.cell (i := 1) rfl
  have hk2c2 := hk2.cell (i := 2) rfl
  have hk2c3 := hk2.cell (i := 3) rfl
  have hk2l := hk2.lt
  have hk3c0 := hk3.cell (i := 0) rfl
  have hk3c1 := hk3.cell (i := 1) rfl
  have hk3c2 := hk3.cell (i := 2) rfl
  have hk3c3 := hk3.cell (i := 3) rfl
  have hk3l := hk3.lt
  go_wp2_with fail
  clear hk2c0 hk2c1 hk2c2 hk2c3 hk2l hk3c0 hk3c1 hk3c2 hk3c3 hk3l
  refine (rmulQ h0 h1 hb).mono ?_
  rintro e w4 ⟨v_5, rfl, h_5, hup⟩
  replace hk2 := hk2.up hup
  replace hk3 := hk3.up hup
  replace hk4 := hk4.up hup
  replace k0 := k0.up hup
  replace k1 := k1.up hup
  replace hupw := hupw.trans hup
  clear hup
  obtain ⟨s_5, A_5, n_5, c_5, rfl⟩ := h_5.agg
  have hk2c0 := hk2.cell (i := 0) rfl
  have hk2c1 := hk2.cell (i := 1) rfl
  have hk2c2 := hk2.cell (i := 2) rfl
  have hk2c3 := hk2.cell (i := 3) rfl
  have hk2l := hk2.lt
  have hk3c0 := hk3.cell (i := 0) rfl
  have hk3c1 := hk3.cell (i := 1) rfl
  have hk3c2 := hk3.cell (i := 2) rfl
  have hk3c3 := hk3.cell (i := 3) rfl
  have hk3l := hk3.lt
  go_wp2_with fail
  clear hk2c0 hk2c1 hk2c2 hk2c3 hk2l hk3c0 hk3c1 hk3c2 hk3c3 hk3l
  obtain ⟨wa6, hwa6⟩ : ∃ x, x = (w4.alloc (.cells #[.bool s_5, .slice A_5 n_5 c_5] 24)) := ⟨_, rfl⟩
  have hup : Up w4 wa6 := by rw [hwa6]; exact ((Up.refl w4).alloc _)
  have howa6 : (w.heap.size + 1 + 1) < w4.heap.size := hk4.lt
  have hzwa6 : w.heap.size ≤ w4.heap.size := hupw.size
  replace hk4 := hk4.up hup
  replace k0 := k0.up hup
  replace k1 := k1.up hup
  replace h_5 := h_5.up hup
  replace hupw := hupw.trans hup
  clear hup
  have hk6 : Bk wa6 (w4.heap.size) 24 #[.bool s_5, .slice A_5 n_5 c_5] := by
    have := (Bk.new w4 24 #[.bool s_5, .slice A_5 n_5 c_5])
    rw [hwa6]; simpa using this
  rw [← hwa6]
  clear hwa6
  refine (rmulQ k0 k1 hd).mono ?_
  rintro e w7 ⟨v_8, rfl, h_8, hup⟩
  replace hk4 := hk4.up hup
  replace hk6 := hk6.up hup
  replace h_5 := h_5.up hup
  replace hupw := hupw.trans hup
  clear hup
  obtain ⟨s_8, A_8, n_8, c_8, rfl⟩ := h_8.agg
  have hk6c0 := hk6.cell (i := 0) rfl
  have hk6c1 := hk6.cell (i := 1) rfl
  have hk6l := hk6.lt
  go_wp2_with fail
  clear hk6c0 hk6c1 hk6l
  obtain ⟨wa9, hwa9⟩ : ∃ x, x = (w7.alloc (.cells #[.bool s_8, .slice A_8 n_8 c_8] 24)) := ⟨_, rfl⟩
  have hup : Up w7 wa9 := by rw [hwa9]; exact ((Up.refl w7).alloc _)
  have howa9 : w4.heap.size < w7.heap.size := hk6.lt
  have hzwa9 : w.heap.size ≤ w7.heap.size := hupw.size
  replace hk4 := hk4.up hup
  replace h_5 := h_5.up hup
  replace h_8 := h_8.up hup
  replace hupw := hupw.trans hup
  clear hup
  have hk8 : Bk wa9 (w7.heap.size) 24 #[.bool s_8, .slice A_8 n_8 c_8] := by
    have := (Bk.new w7 24 #[.bool s_8, .slice A_8 n_8 c_8])
    rw [hwa9]; simpa using this
  rw [← hwa9]
  clear hwa9
  refine (rmakeQ h_5 h_8).mono ?_
  rintro e w10 ⟨vf, rfl, hf, hup⟩
  replace hk4 := hk4.up hup
  replace hupw := hupw.trans hup
  clear hup
  obtain ⟨s_11, A_11, n_11, c_11, s_12, A_12, n_12, c_12, rfl, h_11, h_12⟩ := hf
  have hk4c0 := hk4.cell (i := 0) rfl
  have hk4c1 := hk4.cell (i := 1) rfl
  have hk4c2 := hk4.cell (i := 2) rfl
  have hk4c3 := hk4.cell (i := 3) rfl
  have hk4l := hk4.lt
  have hk4f0 := hk4.frozen 0
  have hk4f1 := hk4.frozen 1
  have hk4f2 := hk4.frozen 2
  have hk4f3 := hk4.frozen 3
  go_wp2_with fail
  clear hk4c0 hk4c1 hk4c2 hk4c3 hk4l hk4f0 hk4f1 hk4f2 hk4f3
  obtain ⟨ws13, hws13⟩ : ∃ x, x = (st4 w10 (w.heap.size + 1 + 1) (.bool s_11) (.slice A_11 n_11 c_11) (.bool s_12) (.slice A_12 n_12 c_12)) := ⟨_, rfl⟩
  have h_11' := h_11.st4 hk4 (noU4 _ _ _ _ _ _ _ _) (.bool s_11) (.slice A_11 n_11 c_11) (.bool s_12) (.slice A_12 n_12 c_12)
  have h_12' := h_12.st4 hk4 (noU4 _ _ _ _ _ _ _ _) (.bool s_11) (.slice A_11 n_11 c_11) (.bool s_12) (.slice A_12 n_12 c_12)
  rw [← hws13] at h_11'
  clear h_11
  have h_11 := h_11'
  clear h_11'
  rw [← hws13] at h_12'
  clear h_12
  have h_12 := h_12'
  clear h_12'
  replace hupw := hupw.st4 (g := (w.heap.size + 1 + 1)) (by omega) (.bool s_11) (.slice A_11 n_11 c_11) (.bool s_12) (.slice A_12 n_12 c_12)
  rw [← hws13] at hupw
  replace hk4 := hk4.four (.bool s_11) (.slice A_11 n_11 c_11) (.bool s_12) (.slice A_12 n_12 c_12)
  rw [← hws13] at hk4
  have hszws13 : ws13.heap.size = w10.heap.size := by rw [hws13]; simp [st4]
  unfold st4 at hws13
  rw [← hws13]
  clear hws13
  clear hszws13
  have hk4c0 := hk4.cell (i := 0) rfl
  have hk4c1 := hk4.cell (i := 1) rfl
  have hk4c2 := hk4.cell (i := 2) rfl
  have hk4c3 := hk4.cell (i := 3) rfl
  exact bodyPost_ret (v := .tuple #[.agg #[.bool s_11, .slice A_11 n_11 c_11, .bool s_12, .slice A_12 n_12 c_12], .int .i64 (makeR (nm a * nm b) (dn a * dn b)).e]) (by simp [results, Tryz.results33, go_sem, hk4c0, hk4c1, hk4c2, hk4c3]) rfl ⟨_, rfl, Fz.mk h_11 h_12, hupw⟩
theorem rmulRQ {w : World} {v v' : Value} {a b : Rat} (h : Rz w v a) (h' : Rz w v' b) : Calls Tryz.prog 33 #[v, v'] w (PR w (quoR (nm a * nm b) (dn a * dn b))) := by
  cases hb : okB (nm a * nm b) with
  | false => exact (rmulR_1 v v' w h h'  hb).mono fun _ _ hr => PR.of hr (by unfold quoR; rw [hb]; rfl)
  | true =>
    cases hd : okB (dn a * dn b) with
    | false => exact (rmulR_2 v v' w h h'  hb hd).mono fun _ _ hr => PR.of hr (by unfold quoR; rw [hb, hd]; rfl)
    | true =>
      have e2 : makeR (nm a * nm b) (dn a * dn b) = quoR (nm a * nm b) (dn a * dn b) := by
        unfold makeR quoR
        rw [hb, hd, if_neg (dn_mul_ne a b)]; rfl
      rw [← e2]
      exact rmulR_3 v v' w h h'  hb hd
set_option maxRecDepth 100000 in
set_option maxHeartbeats 4000000 in
theorem rdivR_0 {a b : Rat} (v0 v1 : Value) (w : World) (f0 : Fz w v0 (nm a) (dn a)) (f1 : Fz w v1 (nm b) (dn b)) (hq : nm b = 0) :
    Calls Tryz.prog 34 #[v0, v1] w (PFE w 0 0 8) := by
  obtain ⟨s0, A0, n0, c0, t0, B0, m0, d0, rfl, h0, k0⟩ := f0
  obtain ⟨s1, A1, n1, c1, t1, B1, m1, d1, rfl, h1, k1⟩ := f1
  have hupw : Up w w := Up.refl w
  go_enter Tryz.func34, Tryz.ntmps34
  go_wp2_with fail
  obtain ⟨wa1, hwa1⟩ : ∃ x, x = (((w.alloc (.cells #[.bool s0, .slice A0 n0 c0, .bool t0, .slice B0 m0 d0] 29)).alloc (.cells #[.bool s1, .slice A1 n1 c1, .bool t1, .slice B1 m1 d1] 29)).alloc (.cells #[.bool false, .slice none 0 0, .bool false, .slice none 0 0] 29)) := ⟨_, rfl⟩
  have hup : Up w wa1 := by rw [hwa1]; exact ((((Up.refl w).alloc _).alloc _).alloc _)
  have hzwa1 : w.heap.size ≤ w.heap.size := hupw.size
  replace h0 := h0.up hup
  replace k0 := k0.up hup
  replace h1 := h1.up hup
  replace k1 := k1.up hup
  replace hupw := hupw.trans hup
  clear hup
  have hk2 : Bk wa1 (w.heap.size) 29 #[.bool s0, .slice A0 n0 c0, .bool t0, .slice B0 m0 d0] := by
    have := (((Bk.new w 29 #[.bool s0, .slice A0 n0 c0, .bool t0, .slice B0 m0 d0]).alloc (.cells #[.bool s1, .slice A1 n1 c1, .bool t1, .slice B1 m1 d1] 29)).alloc (.cells #[.bool false, .slice none 0 0, .bool false, .slice none 0 0] 29))
    rw [hwa1]; simpa using this
  have hk3 : Bk wa1 (w.heap.size + 1) 29 #[.bool s1, .slice A1 n1 c1, .bool t1, .slice B1 m1 d1] := by
    have := ((Bk.new (w.alloc (.cells #[.bool s0, .slice A0 n0 c0, .bool t0, .slice B0 m0 d0] 29)) 29 #[.bool s1, .slice A1 n1 c1, .bool t1, .slice B1 m1 d1]).alloc (.cells #[.bool false, .slice none 0 0, .bool false, .slice none 0 0] 29))
    rw [hwa1]; simpa using this
  have hk4 : Bk wa1 (w.heap.size + 1 + 1) 29 #[.bool false, .slice none 0 0, .bool false, .slice none 0 0] := by
    have := (Bk.new ((w.alloc (.cells #[.bool s0, .slice A0 n0 c0, .bool t0, .slice B0 m0 d0] 29)).alloc (.cells #[.bool s1, .slice A1 n1 c1, .bool t1, .slice B1 m1 d1] 29)) 29 #[.bool false, .slice none 0 0, .bool false, .slice none 0 0])
    rw [hwa1]; simpa using this
  rw [← hwa1]
  clear hwa1
  refine (rvalidRQ (Fz.mk h0 k0)).mono ?_
  rintro e w2 ⟨rfl, hup⟩
  replace hk3 := hk3.up hup
  replace hk4 := hk4.up hup
  replace h1 := h1.up hup
  replace k1 := k1.up hup
  replace hupw := hupw.trans hup
  clear hup
  have hk3c0 := hk3.cell (i := 0) rfl
  have hk3c1 := hk3.cell (i := 1) rfl
  have hk3c2 := hk3.cell (i := 2) rfl
  have hk3c3 := hk3.cell (i := 3) rfl
  have hk3l := hk3.lt
  go_wp2_with fail
  clear hk3c0 hk3c1 hk3c2 hk3c3 hk3l
  refine (rvalidRQ (Fz.mk h1 k1)).mono ?_
  rintro e w3 ⟨rfl, hup⟩
  replace hk3 := hk3.up hup
  replace hk4 := hk4.up hup
  replace h1 := h1.up hup
  replace hupw := hupw.trans hup
  clear hup
  have hk3c0 := hk3.cell (i := 0) rfl
  have hk3c1 := hk3.cell (i := 1) rfl
  have hk3c2 := hk3.cell (i := 2) rfl
  have hk3c3 := hk3.cell (i := 3) rfl
  have hk3l := hk3.lt
  go_wp2_with fail
  clear hk3c0 hk3c1 hk3c2 hk3c3 hk3l
  refine (rsignQ 0 h1 (Int.sign_eq_zero_iff_zero.2 hq)).mono ?_
  rintro e w4 ⟨rfl, hup⟩
  replace hk4 := hk4.up hup
  replace hupw := hupw.trans hup
  clear hup
  have hk4c0 := hk4.cell (i := 0) rfl
  have hk4c1 := hk4.cell (i := 1) rfl
  have hk4c2 := hk4.cell (i := 2) rfl
  have hk4c3 := hk4.cell (i := 3) rfl
  have hk4l := hk4.lt
  have hk4f0 := hk4.frozen 0
  have hk4f1 := hk4.frozen 1
  have hk4f2 := hk4.frozen 2
  have hk4f3 := hk4.frozen 3
  go_wp2_with fail
  clear hk4c0 hk4c1 hk4c2 hk4c3 hk4l hk4f0 hk4f1 hk4f2 hk4f3
  obtain ⟨ws5, hws5⟩ : ∃ x, x = (st4 w4 (w.heap.size + 1 + 1) (.bool false) (.slice none 0 0) (.bool false) (.slice none 0 0)) := ⟨_, rfl⟩
  replace hupw := hupw.st4 (g := (w.heap.size + 1 + 1)) (by omega) (.bool false) (.slice none 0 0) (.bool false) (.slice none 0 0)
  rw [← hws5] at hupw
  replace hk4 := hk4.four (.bool false) (.slice none 0 0) (.bool false) (.slice none 0 0)
  rw [← hws5] at hk4
  have hszws5 : ws5.heap.size = w4.heap.size := by rw [hws5]; simp [st4]
  unfold st4 at hws5
  rw [← hws5]
  clear hws5
  clear hszws5
  have hk4c0 := hk4.cell (i := 0) rfl
  have hk4c1 := hk4.cell (i := 1) rfl
  have hk4c2 := hk4.cell (i := 2) rfl
  have hk4c3 := hk4.cell (i := 3) rfl
  exact bodyPost_ret (v := .tuple #[.agg #[.bool false, .slice none 0 0, .bool false, .slice none 0 0], .int .i64 8]) (by simp [results, Tryz.results34, go_sem, hk4c0, hk4c1, hk4c2, hk4c3]) rfl ⟨_, rfl, Fz.mk (Iz.zero _) (Iz.zero _), hupw⟩
set_option maxRecDepth 100000 in
set_option maxHeartbeats 4000000 in
theorem rdivRp_1 {a b : Rat} (v0 v1 : Value) (w : World) (f0 : Fz w v0 (nm a) (dn a)) (f1 : Fz w v1 (nm b) (dn b)) (hq : 0 < nm b) (hb : okB (nm a * dn b) = false) :
    Calls Tryz.prog 34 #[v0, v1] w (PFE w 0 0 3) := by
  obtain ⟨s0, A0, n0, c0, t0, B0, m0, d0, rfl, h0, k0⟩ := f0
  obtain ⟨s1, A1, n1, c1, t1, B1, m1, d1, rfl, h1, k1⟩ := f1
  have hupw : Up w w := Up.refl w
  go_enter Tryz.func34, Tryz.ntmps34
  go_wp2_with fail
  obtain ⟨wa1, hwa1⟩ : ∃ x, x = (((w.alloc (.cells #[.bool s0, .slice A0 n0 c0, .bool t0, .slice B0 m0 d0] 29)).alloc (.cells #[.bool s1, .slice A1 n1 c1, .bool t1, .slice B1 m1 d1] 29)).alloc (.cells #[.bool false, .slice none 0 0, .bool false, .slice none 0 0] 29)) := ⟨_, rfl⟩
  have hup : Up w wa1 := by rw [hwa1]; exact ((((Up.refl w).alloc _).alloc _).alloc _)
  have hzwa1 : w.heap.size ≤ w.heap.size := hupw.size
  replace h0 := h0.up hup
  replace k0 := k0.up hup
  replace h1 := h1.up hup
  replace k1 := k1.up hup
  replace hupw := hupw.trans hup
  clear hup
  have hk2 : Bk wa1 (w.heap.size) 29 #[.bool s0, .slice A0 n0 c0, .bool t0, .slice B0 m0 d0] := by
    have := (((Bk.new w 29 #[.bool s0, .slice A0 n0 c0, .bool t0, .slice B0 m0 d0]).alloc (.cells #[.bool s1, .slice A1 n1 c1, .bool t1, .slice B1 m1 d1] 29)).alloc (.cells #[.bool false, .slice none 0 0, .bool false, .slice none 0 0] 29))
    rw [hwa1]; simpa using this
  have hk3 : Bk wa1 (w.heap.size + 1) 29 #[.bool s1, .slice A1 n1 c1, .bool t1, .slice B1 m1 d1] := by
    have := ((Bk.new (w.alloc (.cells #[.bool s0, .slice A0 n0 c0, .bool t0, .slice B0 m0 d0] 29)) 29 #[.bool s1, .slice A1 n1 c1, .bool t1, .slice B1 m1 d1]).alloc (.cells #[.bool false, .slice none 0 0, .bool false, .slice none 0 0] 29))
    rw [hwa1]; simpa using this
  have hk4 : Bk wa1 (w.heap.size + 1 + 1) 29 #[.bool false, .slice none 0 0, .bool false, .slice none 0 0] := by
    have := (Bk.new ((w.alloc (.cells #[.bool s0, .slice A0 n0 c0, .bool t0, .slice B0 m0 d0] 29)).alloc (.cells #[.bool s1, .slice A1 n1 c1, .bool t1, .slice B1 m1 d1] 29)) 29 #[.bool false, .slice none 0 0, .bool false, .slice none 0 0])
    rw [hwa1]; simpa using this
  rw [← hwa1]
  clear hwa1
  refine (rvalidRQ (Fz.mk h0 k0)).mono ?_
  rintro e w2 ⟨rfl, hup⟩
  replace hk2 := hk2.up hup
  replace hk3 := hk3.up hup
  replace hk4 := hk4.up hup
  replace h0 := h0.up hup
  replace k0 := k0.up hup
  replace h1 := h1.up hup
  replace k1 := k1.up hup
  replace hupw := hupw.trans hup
  clear hup
  have hk3c0 := hk3.cell (i := 0) rfl
  have hk3c1 := hk3.cell (i := 1) rfl
  have hk3c2 := hk3.cell (i := 2) rfl
  have hk3c3 := hk3.cell (i := 3) rfl
  have hk3l := hk3.lt
  go_wp2_with fail
  clear hk3c0 hk3c1 hk3c2 hk3c3 hk3l
  refine (rvalidRQ (Fz.mk h1 k1)).mono ?_
  rintro e w3 ⟨rfl, hup⟩
  replace hk2 := hk2.up hup
  replace hk3 := hk3.up hup
  replace hk4 := hk4.up hup
  replace h0 := h0.up hup
  replace k0 := k0.up hup
  replace h1 := h1.up hup
  replace k1 := k1.up hup
  replace hupw := hupw.trans hup
  clear hup
  have hk3c0 := hk3.cell (i := 0) rfl
  have hk3c1 := hk3.cell (i := 1) rfl
  have hk3c2 := hk3.cell (i := 2) rfl
  have hk3c3 := hk3.cell (i := 3) rfl
  have hk3l := hk3.lt
  go_wp2_with fail
  clear hk3c0 hk3c1 hk3c2 hk3c3 hk3l
  refine (rsignQ 1 h1 (Int.sign_eq_one_of_pos hq)).mono ?_
  rintro e w4 ⟨rfl, hup⟩
  replace hk2 := hk2.up hup
  replace hk3 := hk3.up hup
  replace hk4 := hk4.up hup
  replace h0 := h0.up hup
  replace k0 := k0.up hup
  replace h1 := h1.up hup
  replace k1 := k1.up hup
  replace hupw := hupw.trans hup
  clear hup
  have hk2c0 := hk2.cell (i := 0) rfl
  have hk2c1 := hk2.cell (i := 1) rfl
  have hk2c2 := hk2.cell (i := 2) rfl
  have hk2c3 := hk2.cell (i := 3) rfl
  have hk2l := hk2.lt
  have hk3c0 := hk3.cell (i := 0) rfl
  have hk3c1 := hk3.cell (i := 1) rfl
  have hk3c2 := hk3.cell (i := 2) rfl
  have hk3c3 := hk3.cell (i := 3) rfl
  have hk3l := hk3.lt
  go_wp2_with fail
  clear hk2c0 hk2c1 hk2c2 hk2c3 hk2l hk3c0 hk3c1 hk3c2 hk3c3 hk3l
  refine (rmulN h0 k1 hb).mono ?_
  rintro e w5 ⟨v_6, rfl, h_6, hup⟩
  replace hk2 := hk2.up hup
  replace hk3 := hk3.up hup
  replace hk4 := hk4.up hup
  replace k0 := k0.up hup
  replace h1 := h1.up hup
  replace hupw := hupw.trans hup
  clear hup
  obtain ⟨s_6, A_6, n_6, c_6, rfl⟩ := h_6.agg
  have hk2c0 := hk2.cell (i := 0) rfl
  have hk2c1 := hk2.cell (i := 1) rfl
  have hk2c2 := hk2.cell (i := 2) rfl
  have hk2c3 := hk2.cell (i := 3) rfl
  have hk2l := hk2.lt
  have hk3c0 := hk3.cell (i := 0) rfl
  have hk3c1 := hk3.cell (i := 1) rfl
  have hk3c2 := hk3.cell (i := 2) rfl
  have hk3c3 := hk3.cell (i := 3) rfl
  have hk3l := hk3.lt
  go_wp2_with fail
  clear hk2c0 hk2c1 hk2c2 hk2c3 hk2l hk3c0 hk3c1 hk3c2 hk3c3 hk3l
  obtain ⟨wa7, hwa7⟩ : ∃ x, x = (w5.alloc (.cells #[.bool s_6, .slice A_6 n_6 c_6] 24)) := ⟨_, rfl⟩
  have hup : Up w5 wa7 := by rw [hwa7]; exact ((Up.refl w5).alloc _)
  have howa7 : (w.heap.size + 1 + 1) < w5.heap.size := hk4.lt
  have hzwa7 : w.heap.size ≤ w5.heap.size := hupw.size
  replace hk4 := hk4.up hup
  replace k0 := k0.up hup
  replace h1 := h1.up hup
  replace hupw := hupw.trans hup
  clear hup
  have hk6 : Bk wa7 (w5.heap.size) 24 #[.bool s_6, .slice A_6 n_6 c_6] := by
    have := (Bk.new w5 24 #[.bool s_6, .slice A_6 n_6 c_6])
    rw [hwa7]; simpa using this
  rw [← hwa7]
  clear hwa7
  refine (rmulE k0 h1).mono ?_
  rintro e w8 ⟨v_9, rfl, h_9, hup⟩
  replace hk4 := hk4.up hup
  replace hk6 := hk6.up hup
  replace hupw := hupw.trans hup
  clear hup
  obtain ⟨s_9, A_9, n_9, c_9, rfl⟩ := h_9.agg
  have hk4c0 := hk4.cell (i := 0) rfl
  have hk4c1 := hk4.cell (i := 1) rfl
  have hk4c2 := hk4.cell (i := 2) rfl
  have hk4c3 := hk4.cell (i := 3) rfl
  have hk4l := hk4.lt
  have hk4f0 := hk4.frozen 0
  have hk4f1 := hk4.frozen 1
  have hk4f2 := hk4.frozen 2
  have hk4f3 := hk4.frozen 3
  go_wp2_with fail
  clear hk4c0 hk4c1 hk4c2 hk4c3 hk4l hk4f0 hk4f1 hk4f2 hk4f3
  obtain ⟨ws10, hws10⟩ : ∃ x, x = (st4 w8 (w.heap.size + 1 + 1) (.bool false) (.slice none 0 0) (.bool false) (.slice none 0 0)) := ⟨_, rfl⟩
  replace hk6 := hk6.far4 (g' := (w.heap.size + 1 + 1)) (by omega) (.bool false) (.slice none 0 0) (.bool false) (.slice none 0 0)
  rw [← hws10] at hk6
  replace hupw := hupw.st4 (g := (w.heap.size + 1 + 1)) (by omega) (.bool false) (.slice none 0 0) (.bool false) (.slice none 0 0)
  rw [← hws10] at hupw
  replace hk4 := hk4.four (.bool false) (.slice none 0 0) (.bool false) (.slice none 0 0)
  rw [← hws10] at hk4
  have hszws10 : ws10.heap.size = w8.heap.size := by rw [hws10]; simp [st4]
  unfold st4 at hws10
  rw [← hws10]
  clear hws10
  obtain ⟨wa11, hwa11⟩ : ∃ x, x = (ws10.alloc (.cells #[.bool s_9, .slice A_9 n_9 c_9] 24)) := ⟨_, rfl⟩
  have hup : Up ws10 wa11 := by rw [hwa11]; exact ((Up.refl ws10).alloc _)
  have howa11 : w5.heap.size < w8.heap.size := by have := hk6.lt; omega
  have hzwa11 : w.heap.size ≤ w8.heap.size := by have := hupw.size; omega
  replace hk4 := hk4.up hup
  replace hupw := hupw.trans hup
  clear hup
  have hk8 : Bk wa11 (w8.heap.size) 24 #[.bool s_9, .slice A_9 n_9 c_9] := by
    have := (Bk.new ws10 24 #[.bool s_9, .slice A_9 n_9 c_9])
    rw [hwa11]; simpa [hszws10] using this
  rw [← hwa11]
  clear hwa11
  clear hszws10
  have hk4c0 := hk4.cell (i := 0) rfl
  have hk4c1 := hk4.cell (i := 1) rfl
  have hk4c2 := hk4.cell (i := 2) rfl
  have hk4c3 := hk4.cell (i := 3) rfl
  exact bodyPost_ret (v := .tuple #[.agg #[.bool false, .slice none 0 0, .bool false, .slice none 0 0], .int .i64 3]) (by simp [results, Tryz.results34, go_sem, hk4c0, hk4c1, hk4c2, hk4c3]) rfl ⟨_, rfl, Fz.mk (Iz.zero _) (Iz.zero _), hupw⟩
set_option maxRecDepth 100000 in
set_option maxHeartbeats 4000000 in
theorem rdivRp_2 {a b : Rat} (v0 v1 : Value) (w : World) (f0 : Fz w v0 (nm a) (dn a)) (f1 : Fz w v1 (nm b) (dn b)) (hq : 0 < nm b) (hb : okB (nm a * dn b) = true) (hd : okB (dn a * nm b) = false) :
    Calls Tryz.prog 34 #[v0, v1] w (PFE w 0 0 3) := by
  obtain ⟨s0, A0, n0, c0, t0, B0, m0, d0, rfl, h0, k0⟩ := f0
  obtain ⟨s1, A1, n1, c1, t1, B1, m1, d1, rfl, h1, k1⟩ := f1
  have hupw : Up w w := Up.refl w
  go_enter Tryz.func34, Tryz.ntmps34
  go_wp2_with fail
  obtain ⟨wa1, hwa1⟩ : ∃ x, x = (((w.alloc (.cells #[.bool s0, .slice A0 n0 c0, .bool t0, .slice B0 m0 d0] 29)).alloc (.cells #[.bool s1, .slice A1 n1 c1, .bool t1, .slice B1 m1 d1] 29)).alloc (.cells #[.bool false, .slice none 0 0, .bool false, .slice none 0 0] 29)) := ⟨_, rfl⟩
  have hup : Up w wa1 := by rw [hwa1]; exact ((((Up.refl w).alloc _).alloc _).alloc _)
  have hzwa1 : w.heap.size ≤ w.heap.size := hupw.size
  replace h0 := h0.up hup
  replace k0 := k0.up hup
  replace h1 := h1.up hup
  replace k1 := k1.up hup
  replace hupw := hupw.trans hup
  clear hup
  have hk2 : Bk wa1 (w.heap.size) 29 #[.bool s0, .slice A0 n0 c0, .bool t0, .slice B0 m0 d0] := by
    have := (((Bk.new w 29 #[.bool s0, .slice A0 n0 c0, .bool t0, .slice B0 m0 d0]).alloc (.cells #[.bool s1, .slice A1 n1 c1, .bool t1, .slice B1 m1 d1] 29)).alloc (.cells #[.bool false, .slice none 0 0, .bool false, .slice none 0 0] 29))
    rw [hwa1]; simpa using this
  have hk3 : Bk wa1 (w.heap.size + 1) 29 #[.bool s1, .slice A1 n1 c1, .bool t1, .slice B1 m1 d1] := by
    have := ((Bk.new (w.alloc (.cells #[.bool s0, .slice A0 n0 c0, .bool t0, .slice B0 m0 d0] 29)) 29 #[.bool s1, .slice A1 n1 c1, .bool t1, .slice B1 m1 d1]).alloc (.cells #[.bool false, .slice none 0 0, .bool false, .slice none 0 0] 29))
    rw [hwa1]; simpa using this
  have hk4 : Bk wa1 (w.heap.size + 1 + 1) 29 #[.bool false, .slice none 0 0, .bool false, .slice none 0 0] := by
    have := (Bk.new ((w.alloc (.cells #[.bool s0, .slice A0 n0 c0, .bool t0, .slice B0 m0 d0] 29)).alloc (.cells #[.bool s1, .slice A1 n1 c1, .bool t1, .slice B1 m1 d1] 29)) 29 #[.bool false, .slice none 0 0, .bool false, .slice none 0 0])
    rw [hwa1]; simpa using this
  rw [← hwa1]
  clear hwa1
  refine (rvalidRQ (Fz.mk h0 k0)).mono ?_
  rintro e w2 ⟨rfl, hup⟩
  replace hk2 := hk2.up hup
  replace hk3 := hk3.up hup
  replace hk4 := hk4.up hup
  replace h0 := h0.up hup
  replace k0 := k0.up hup
  replace h1 := h1.up hup
  replace k1 := k1.up hup
  replace hupw := hupw.trans hup
  clear hup
  have hk3c0 := hk3.cell (i := 0) rfl
  have hk3c1 := hk3.cell (i := 1) rfl
  have hk3c2 := hk3.cell (i := 2) rfl
  have hk3c3 := hk3.cell (i := 3) rfl
  have hk3l := hk3.lt
  go_wp2_with fail
  clear hk3c0 hk3c1 hk3c2 hk3c3 hk3l
  refine (rvalidRQ (Fz.mk h1 k1)).mono ?_
  rintro e w3 ⟨rfl, hup⟩
  replace hk2 := hk2.up hup
  replace hk3 := hk3.up hup
  replace hk4 := hk4.up hup
  replace h0 := h0.up hup
  replace k0 := k0.up hup
  replace h1 := h1.up hup
  replace k1 := k1.up hup
  replace hupw := hupw.trans hup
  clear hup
  have hk3c0 := hk3.cell (i := 0) rfl
  have hk3c1 := hk3.cell (i := 1) rfl
  have hk3c2 := hk3.cell (i := 2) rfl
  have hk3c3 := hk3.cell (i := 3) rfl
  have hk3l := hk3.lt
  go_wp2_with fail
  clear hk3c0 hk3c1 hk3c2 hk3c3 hk3l
  refine (rsignQ 1 h1 (Int.sign_eq_one_of_pos hq)).mono ?_
  rintro e w4 ⟨rfl, hup⟩
  replace hk2 := hk2.up hup
  replace hk3 := hk3.up hup
  replace hk4 := hk4.up hup
  replace h0 := h0.up hup
  replace k0 := k0.up hup
  replace h1 := h1.up hup
  replace k1 := k1.up hup
  replace hupw := hupw.trans hup
  clear hup
  have hk2c0 := hk2.cell (i := 0) rfl
  have hk2c1 := hk2.cell (i := 1) rfl
  have hk2c2 := hk2.cell (i := 2) rfl
  have hk2c3 := hk2.cell (i := 3) rfl
  have hk2l := hk2.lt
  have hk3c0 := hk3.cell (i := 0) rfl
  have hk3c1 := hk3.cell (i := 1) rfl
  have hk3c2 := hk3.cell (i := 2) rfl
  have hk3c3 := hk3.cell (i := 3) rfl
  have hk3l := hk3.lt
  go_wp2_with fail
  clear hk2c0 hk2c1 hk2c2 hk2c3 hk2l hk3c0 hk3c1 hk3c2 hk3c3 hk3l
  refine (rmulQ h0 k1 hb).mono ?_
  rintro e w5 ⟨v_6, rfl, h_6, hup⟩
  replace hk2 := hk2.up hup
  replace hk3 := hk3.up hup
  replace hk4 := hk4.up hup
  replace k0 := k0.up hup
  replace h1 := h1.up hup
  replace hupw := hupw.trans hup
  clear hup
  obtain ⟨s_6, A_6, n_6, c_6, rfl⟩ := h_6.agg
  have hk2c0 := hk2.cell (i := 0) rfl
  have hk2c1 := hk2.cell (i := 1) rfl
  have hk2c2 := hk2.cell (i := 2) rfl
  have hk2c3 := hk2.cell (i := 3) rfl
  have hk2l := hk2.lt
  have hk3c0 := hk3.cell (i := 0) rfl
  have hk3c1 := hk3.cell (i := 1) rfl
  have hk3c2 := hk3.cell (i := 2) rfl
  have hk3c3 := hk3.cell (i := 3) rfl
  have hk3l := hk3.lt
  go_wp2_with fail
  clear hk2c0 hk2c1 hk2c2 hk2c3 hk2l hk3c0 hk3c1 hk3c2 hk3c3 hk3l
  obtain ⟨wa7, hwa7⟩ : ∃ x, x = (w5.alloc (.cells #[.bool s_6, .slice A_6 n_6 c_6] 24)) := ⟨_, rfl⟩
  have hup : Up w5 wa7 := by rw [hwa7]; exact ((Up.refl w5).alloc _)
  have howa7 : (w.heap.size + 1 + 1) < w5.heap.size := hk4.lt
  have hzwa7 : w.heap.size ≤ w5.heap.size := hupw.size
  replace hk4 := hk4.up hup
  replace k0 := k0.up hup
  replace h1 := h1.up hup
  replace hupw := hupw.trans hup
  clear hup
  have hk6 : Bk wa7 (w5.heap.size) 24 #[.bool s_6, .slice A_6 n_6 c_6] := by
    have := (Bk.new w5 24 #[.bool s_6, .slice A_6 n_6 c_6])
    rw [hwa7]; simpa using this
  rw [← hwa7]
  clear hwa7
  refine (rmulN k0 h1 hd).mono ?_
  rintro e w8 ⟨v_9, rfl, h_9, hup⟩
  replace hk4 := hk4.up hup
  replace hk6 := hk6.up hup
  replace hupw := hupw.trans hup
  clear hup
  obtain ⟨s_9, A_9, n_9, c_9, rfl⟩ := h_9.agg
  have hk4c0 := hk4.cell (i := 0) rfl
  have hk4c1 := hk4.cell (i := 1) rfl
  have hk4c2 := hk4.cell (i := 2) rfl
  have hk4c3 := hk4.cell (i := 3) rfl
  have hk4l := hk4.lt
  have hk4f0 := hk4.frozen 0
  have hk4f1 := hk4.frozen 1
  have hk4f2 := hk4.frozen 2
  have hk4f3 := hk4.frozen 3
  go_wp2_with fail
  clear hk4c0 hk4c1 hk4c2 hk4c3 hk4l hk4f0 hk4f1 hk4f2 hk4f3
  obtain ⟨ws10, hws10⟩ : ∃ x, x = (st4 w8 (w.heap.size + 1 + 1) (.bool false) (.slice none 0 0) (.bool false) (.slice none 0 0)) := ⟨_, rfl⟩
  replace hk6 := hk6.far4 (g' := (w.heap.size + 1 + 1)) (by omega) (.bool false) (.slice none 0 0) (.bool false) (.slice none 0 0)
  rw [← hws10] at hk6
  replace hupw := hupw.st4 (g := (w.heap.size + 1 + 1)) (by omega) (.bool false) (.slice none 0 0) (.bool false) (.slice none 0 0)
  rw [← hws10] at hupw
  replace hk4 := hk4.four (.bool false) (.slice none 0 0) (.bool false) (.slice none 0 0)
  rw [← hws10] at hk4
  have hszws10 : ws10.heap.size = w8.heap.size := by rw [hws10]; simp [st4]
  unfold st4 at hws10
  rw [← hws10]
  clear hws10
  obtain ⟨wa11, hwa11⟩ : ∃ x, x = (ws10.alloc (.cells #[.bool s_9, .slice A_9 n_9 c_9] 24)) := ⟨_, rfl⟩
  have hup : Up ws10 wa11 := by rw [hwa11]; exact ((Up.refl ws10).alloc _)
  have howa11 : w5.heap.size < w8.heap.size := by have := hk6.lt; omega
  have hzwa11 : w.heap.size ≤ w8.heap.size := by have := hupw.size; omega
  replace hk4 := hk4.up hup
  replace hupw := hupw.trans hup
  clear hup
  have hk8 : Bk wa11 (w8.heap.size) 24 #[.bool s_9, .slice A_9 n_9 c_9] := by
    have := (Bk.new ws10 24 #[.bool s_9, .slice A_9 n_9 c_9])
    rw [hwa11]; simpa [hszws10] using this
  rw [← hwa11]
  clear hwa11
  clear hszws10
  have hk4c0 := hk4.cell (i := 0) rfl
  have hk4c1 := hk4.cell (i := 1) rfl
  have hk4c2 := hk4.cell (i := 2) rfl
  have hk4c3 := hk4.cell (i := 3) rfl
  exact bodyPost_ret (v := .tuple #[.agg #[.bool false, .slice none 0 0, .bool false, .slice none 0 0], .int .i64 3]) (by simp [results, Tryz.results34, go_sem, hk4c0, hk4c1, hk4c2, hk4c3]) rfl ⟨_, rfl, Fz.mk (Iz.zero _) (Iz.zero _), hupw⟩
set_option maxRecDepth 100000 in
set_option maxHeartbeats 4000000 in
theorem rdivRp_3 {a b : Rat} (v0 v1 : Value) (w : World) (f0 : Fz w v0 (nm a) (dn a)) (f1 : Fz w v1 (nm b) (dn b)) (hq : 0 < nm b) (hb : okB (nm a * dn b) = true) (hd : okB (dn a * nm b) = true) :
    Calls Tryz.prog 34 #[v0, v1] w (PR w (makeR (nm a * dn b) (dn a * nm b))) := by
  obtain ⟨s0, A0, n0, c0, t0, B0, m0, d0, rfl, h0, k0⟩ := f0
  obtain ⟨s1, A1, n1, c1, t1, B1, m1, d1, rfl, h1, k1⟩ := f1
  have hupw : Up w w := Up.refl w
  go_enter Tryz.func34, Tryz.ntmps34
  go_wp2_with fail
  obtain ⟨wa1, hwa1⟩ : ∃ x, x = (((w.alloc (.cells #[.bool s0, .slice A0 n0 c0, .bool t0, .slice B0 m0 d0] 29)).alloc (.cells #[.bool s1, .slice A1 n1 c1, .bool t1, .slice B1 m1 d1] 29)).alloc (.cells #[.bool false, .slice none 0 0, .bool false, .slice none 0 0] 29)) := ⟨_, rfl⟩
  have hup : Up w wa1 := by rw [hwa1]; exact ((((Up.refl w).alloc _).alloc _).alloc _)
  have hzwa1 : w.heap.size ≤ w.heap.size := hupw.size
  replace h0 := h0.up hup
  replace k0 := k0.up hup
  replace h1 := h1.up hup
  replace k1 := k1.up hup
  replace hupw := hupw.trans hup
  clear hup
  have hk2 : Bk wa1 (w.heap.size) 29 #[.bool s0, .slice A0 n0 c0, .bool t0, .slice B0 m0 d0] := by
    have := (((Bk.new w 29 #[.bool s0, .slice A0 n0 c0, .bool t0, .slice B0 m0 d0]).alloc (.cells #[.bool s1, .slice A1 n1 c1, .bool t1, .slice B1 m1 d1] 29)).alloc (.cells #[.bool false, .slice none 0 0, .bool false, .slice none 0 0] 29))
    rw [hwa1]; simpa using this
  have hk3 : Bk wa1 (w.heap.size + 1) 29 #[.bool s1, .slice A1 n1 c1, .bool t1, .slice B1 m1 d1] := by
    have := ((Bk.new (w.alloc (.cells #[.bool s0, .slice A0 n0 c0, .bool t0, .slice B0 m0 d0] 29)) 29 #[.bool s1, .slice A1 n1 c1, .bool t1, .slice B1 m1 d1]).alloc (.cells #[.bool false, .slice none 0 0, .bool false, .slice none 0 0] 29))
    rw [hwa1]; simpa using this
  have hk4 : Bk wa1 (w.heap.size + 1 + 1) 29 #[.bool false, .slice none 0 0, .bool false, .slice none 0 0] := by
    have := (Bk.new ((w.alloc (.cells #[.bool s0, .slice A0 n0 c0, .bool t0, .slice B0 m0 d0] 29)).alloc (.cells #[.bool s1, .slice A1 n1 c1, .bool t1, .slice B1 m1 d1] 29)) 29 #[.bool false, .slice none 0 0, .bool false, .slice none 0 0])
    rw [hwa1]; simpa using this
  rw [← hwa1]
  clear hwa1
  refine (rvalidRQ (Fz.mk h0 k0)).mono ?_
  rintro e w2 ⟨rfl, hup⟩
  replace hk2 := hk2.up hup
  replace hk3 := hk3.up hup
  replace hk4 := hk4.up hup
  replace h0 := h0.up hup
  replace k0 := k0.up hup
  replace h1 := h1.up hup
  replace k1 := k1.up hup
  replace hupw := hupw.trans hup
  clear hup
  have hk3c0 := hk3.cell (i := 0) rfl
  have hk3c1 := hk3.cell (i := 1) rfl
  have hk3c2 := hk3.cell (i := 2) rfl
  have hk3c3 := hk3.cell (i := 3) rfl
  have hk3l := hk3.lt
  go_wp2_with fail
  clear hk3c0 hk3c1 hk3c2 hk3c3 hk3l
  refine (rvalidRQ (Fz.mk h1 k1)).mono ?_
  rintro e w3 ⟨rfl, hup⟩
  replace hk2 := hk2.up hup
  replace hk3 := hk3.up hup
  replace hk4 := hk4.up hup
  replace h0 := h0.up hup
  replace k0 := k0.up hup
  replace h1 := h1.up hup
  replace k1 := k1.up hup
  replace hupw := hupw.trans hup
  clear hup
  have hk3c0 := hk3.cell (i := 0) rfl
  have hk3c1 := hk3.cell (i := 1) rfl
  have hk3c2 := hk3.cell (i := 2) rfl
  have hk3c3 := hk3.cell (i := 3) rfl
  have hk3l := hk3.lt
  go_wp2_with fail
  clear hk3c0 hk3c1 hk3c2 hk3c3 hk3l
  refine (rsignQ 1 h1 (Int.sign_eq_one_of_pos hq)).mono ?_
  rintro e w4 ⟨rfl, hup⟩
  replace hk2 := hk2.up hup
  replace hk3 := hk3.up hup
  replace hk4 := hk4.up hup
  replace h0 := h0.up hup
  replace k0 := k0.up hup
  replace h1 := h1.up hup
  replace k1 := k1.up hup
  replace hupw := hupw.trans hup
  clear hup
  have hk2c0 := hk2.cell (i := 0) rfl
  have hk2c1 := hk2.cell (i := 1) rfl
  have hk2c2 := hk2.cell (i := 2) rfl
  have hk2c3 := hk2.cell (i := 3) rfl
  have hk2l := hk2.lt
  have hk3c0 := hk3.cell (i := 0) rfl
  have hk3c1 := hk3.cell (i := 1) rfl
  have hk3c2 := hk3.cell (i := 2) rfl
  have hk3c3 := hk3.cell (i := 3) rfl
  have hk3l := hk3.lt
  go_wp2_with fail
  clear hk2c0 hk2c1 hk2c2 hk2c3 hk2l hk3c0 hk3c1 hk3c2 hk3c3 hk3l
  refine (rmulQ h0 k1 hb).mono ?_
  rintro e w5 ⟨v_6, rfl, h_6, hup⟩
  replace hk2 := hk2.up hup
  replace hk3 := hk3.up hup
  replace hk4 := hk4.up hup
  replace k0 := k0.up hup
  replace h1 := h1.up hup
  replace hupw := hupw.trans hup
  clear hup
  obtain ⟨s_6, A_6, n_6, c_6, rfl⟩ := h_6.agg
  have hk2c0 := hk2.cell (i := 0) rfl
  have hk2c1 := hk2.cell (i := 1) rfl
  have hk2c2 := hk2.cell (i := 2) rfl
  have hk2c3 := hk2.cell (i := 3) rfl
  have hk2l := hk2.lt
  have hk3c0 := hk3.cell (i := 0) rfl
  have hk3c1 := hk3.cell (i := 1) rfl
  have hk3c2 := hk3.cell (i := 2) rfl
  have hk3c3 := hk3.cell (i := 3) rfl
  have hk3l := hk3.lt
  go_wp2_with fail
  clear hk2c0 hk2c1 hk2c2 hk2c3 hk2l hk3c0 hk3c1 hk3c2 hk3c3 hk3l
  obtain ⟨wa7, hwa7⟩ : ∃ x, x = (w5.alloc (.cells #[.bool s_6, .slice A_6 n_6 c_6] 24)) := ⟨_, rfl⟩
  have hup : Up w5 wa7 := by rw [hwa7]; exact ((Up.refl w5).alloc _)
  have howa7 : (w.heap.size + 1 + 1) < w5.heap.size := hk4.lt
  have hzwa7 : w.heap.size ≤ w5.heap.size := hupw.size
  replace hk4 := hk4.up hup
  replace k0 := k0.up hup
  replace h1 := h1.up hup
  replace h_6 := h_6.up hup
  replace hupw := hupw.trans hup
  clear hup
  have hk6 : Bk wa7 (w5.heap.size) 24 #[.bool s_6, .slice A_6 n_6 c_6] := by
    have := (Bk.new w5 24 #[.bool s_6, .slice A_6 n_6 c_6])
    rw [hwa7]; simpa using this
  rw [← hwa7]
  clear hwa7
  refine (rmulQ k0 h1 hd).mono ?_
  rintro e w8 ⟨v_9, rfl, h_9, hup⟩
  replace hk4 := hk4.up hup
  replace hk6 := hk6.up hup
  replace h_6 := h_6.up hup
  replace hupw := hupw.trans hup
  clear hup
  obtain ⟨s_9, A_9, n_9, c_9, rfl⟩ := h_9.agg
  have hk6c0 := hk6.cell (i := 0) rfl
  have hk6c1 := hk6.cell (i := 1) rfl
  have hk6l := hk6.lt
  go_wp2_with fail
  clear hk6c0 hk6c1 hk6l
  obtain ⟨wa10, hwa10⟩ : ∃ x, x = (w8.alloc (.cells #[.bool s_9, .slice A_9 n_9 c_9] 24)) := ⟨_, rfl⟩
  have hup : Up w8 wa10 := by rw [hwa10]; exact ((Up.refl w8).alloc _)
  have howa10 : w5.heap.size < w8.heap.size := hk6.lt
  have hzwa10 : w.heap.size ≤ w8.heap.size := hupw.size
  replace hk4 := hk4.up hup
  replace h_6 := h_6.up hup
  replace h_9 := h_9.up hup
  replace hupw := hupw.trans hup
  clear hup
  have hk8 : Bk wa10 (w8.heap.size) 24 #[.bool s_9, .slice A_9 n_9 c_9] := by
    have := (Bk.new w8 24 #[.bool s_9, .slice A_9 n_9 c_9])
    rw [hwa10]; simpa using this
  rw [← hwa10]
  clear hwa10
  refine (rmakeQ h_6 h_9).mono ?_
  rintro e w11 ⟨vf, rfl, hf, hup⟩
  replace hk4 := hk4.up hup
  replace hupw := hupw.trans hup
  clear hup
  obtain ⟨s_12, A_12, n_12, c_12, s_13, A_13, n_13, c_13, rfl, h_12, h_13⟩ := hf
  have hk4c0 := hk4.cell (i := 0) rfl
  have hk4c1 := hk4.cell (i := 1) rfl
  have hk4c2 := hk4.cell (i := 2) rfl
  have hk4c3 := hk4.cell (i := 3) rfl
  have hk4l := hk4.lt
  have hk4f0 := hk4.frozen 0
  have hk4f1 := hk4.frozen 1
  have hk4f2 := hk4.frozen 2
  have hk4f3 := hk4.frozen 3
  go_wp2_with fail
  clear hk4c0 hk4c1 hk4c2 hk4c3 hk4l hk4f0 hk4f1 hk4f2 hk4f3
  obtain ⟨ws14, hws14⟩ : ∃ x, x = (st4 w11 (w.heap.size + 1 + 1) (.bool s_12) (.slice A_12 n_12 c_12) (.bool s_13) (.slice A_13 n_13 c_13)) := ⟨_, rfl⟩
  have h_12' := h_12.st4 hk4 (noU4 _ _ _ _ _ _ _ _) (.bool s_12) (.slice A_12 n_12 c_12) (.bool s_13) (.slice A_13 n_13 c_13)
  have h_13' := h_13.st4 hk4 (noU4 _ _ _ _ _ _ _ _) (.bool s_12) (.slice A_12 n_12 c_12) (.bool s_13) (.slice A_13 n_13 c_13)
  rw [← hws14] at h_12'
  clear h_12
  have h_12 := h_12'
  clear h_12'
  rw [← hws14] at h_13'
  clear h_13
  have h_13 := h_13'
  clear h_13'
  replace hupw := hupw.st4 (g := (w.heap.size + 1 + 1)) (by omega) (.bool s_12) (.slice A_12 n_12 c_12) (.bool s_13) (.slice A_13 n_13 c_13)
  rw [← hws14] at hupw
  replace hk4 := hk4.four (.bool s_12) (.slice A_12 n_12 c_12) (.bool s_13) (.slice A_13 n_13 c_13)
  rw [← hws14] at hk4
  have hszws14 : ws14.heap.size = w11.heap.size := by rw [hws14]; simp [st4]
  unfold st4 at hws14
  rw [← hws14]
  clear hws14
  clear hszws14
  have hk4c0 := hk4.cell (i := 0) rfl
  have hk4c1 := hk4.cell (i := 1) rfl
  have hk4c2 := hk4.cell (i := 2) rfl
  have hk4c3 := hk4.cell (i := 3) rfl
  exact bodyPost_ret (v := .tuple #[.agg #[.bool s_12, .slice A_12 n_12 c_12, .bool s_13, .slice A_13 n_13 c_13], .int .i64 (makeR (nm a * dn b) (dn a * nm b)).e]) (by simp [results, Tryz.results34, go_sem, hk4c0, hk4c1, hk4c2, hk4c3]) rfl ⟨_, rfl, Fz.mk h_12 h_13, hupw⟩
theorem rdivRpQ {w : World} {v v' : Value} {a b : Rat} (h : Rz w v a) (h' : Rz w v' b) (hq : 0 < nm b) : Calls Tryz.prog 34 #[v, v'] w (PR w (quoR (nm a * dn b) (dn a * nm b))) := by
  cases hb : okB (nm a * dn b) with
  | false => exact (rdivRp_1 v v' w h h' hq hb).mono fun _ _ hr => PR.of hr (by unfold quoR; rw [hb]; rfl)
  | true =>
    cases hd : okB (dn a * nm b) with
    | false => exact (rdivRp_2 v v' w h h' hq hb hd).mono fun _ _ hr => PR.of hr (by unfold quoR; rw [hb, hd]; rfl)
    | true =>
      have e2 : makeR (nm a * dn b) (dn a * nm b) = quoR (nm a * dn b) (dn a * nm b) := by
        unfold makeR quoR
        rw [hb, hd, if_neg (Int.mul_ne_zero (dn_ne a) (by omega))]; rfl
      rw [← e2]
      exact rdivRp_3 v v' w h h' hq hb hd
set_option maxRecDepth 100000 in
set_option maxHeartbeats 4000000 in
theorem rdivRm_1 {a b : Rat} (v0 v1 : Value) (w : World) (f0 : Fz w v0 (nm a) (dn a)) (f1 : Fz w v1 (nm b) (dn b)) (hq : nm b < 0) (hb : okB (nm a * dn b) = false) :
    Calls Tryz.prog 34 #[v0, v1] w (PFE w 0 0 3) := by
  obtain ⟨s0, A0, n0, c0, t0, B0, m0, d0, rfl, h0, k0⟩ := f0
  obtain ⟨s1, A1, n1, c1, t1, B1, m1, d1, rfl, h1, k1⟩ := f1
  have hupw : Up w w := Up.refl w
  go_enter Tryz.func34, Tryz.ntmps34
  go_wp2_with fail
  obtain ⟨wa1, hwa1⟩ : ∃ x, x = (((w.alloc (.cells #[.bool s0, .slice A0 n0 c0, .bool t0, .slice B0 m0 d0] 29)).alloc (.cells #[.bool s1, .slice A1 n1 c1, .bool t1, .slice B1 m1 d1] 29)).alloc (.cells #[.bool false, .slice none 0 0, .bool false, .slice none 0 0] 29)) := ⟨_, rfl⟩
  have hup : Up w wa1 := by rw [hwa1]; exact ((((Up.refl w).alloc _).alloc _).alloc _)
  have hzwa1 : w.heap.size ≤ w.heap.size := hupw.size
  replace h0 := h0.up hup
  replace k0 := k0.up hup
  replace h1 := h1.up hup
  replace k1 := k1.up hup
  replace hupw := hupw.trans hup
  clear hup
  have hk2 : Bk wa1 (w.heap.size) 29 #[.bool s0, .slice A0 n0 c0, .bool t0, .slice B0 m0 d0] := by
    have := (((Bk.new w 29 #[.bool s0, .slice A0 n0 c0, .bool t0, .slice B0 m0 d0]).alloc (.cells #[.bool s1, .slice A1 n1 c1, .bool t1, .slice B1 m1 d1] 29)).alloc (.cells #[.bool false, .slice none 0 0, .bool false, .slice none 0 0] 29))
    rw [hwa1]; simpa using this
  have hk3 : Bk wa1 (w.heap.size + 1) 29 #[.bool s1, .slice A1 n1 c1, .bool t1, .slice B1 m1 d1] := by
    have := ((Bk.new (w.alloc (.cells #[.bool s0, .slice A0 n0 c0, .bool t0, .slice B0 m0 d0] 29)) 29 #[.bool s1, .slice A1 n1 c1, .bool t1, .slice B1 m1 d1]).alloc (.cells #[.bool false, .slice none 0 0, .bool false, .slice none 0 0] 29))
    rw [hwa1]; simpa using this
  have hk4 : Bk wa1 (w.heap.size + 1 + 1) 29 #[.bool false, .slice none 0 0, .bool false, .slice none 0 0] := by
    have := (Bk.new ((w.alloc (.cells #[.bool s0, .slice A0 n0 c0, .bool t0, .slice B0 m0 d0] 29)).alloc (.cells #[.bool s1, .slice A1 n1 c1, .bool t1, .slice B1 m1 d1] 29)) 29 #[.bool false, .slice none 0 0, .bool false, .slice none 0 0])
    rw [hwa1]; simpa using this
  rw [← hwa1]
  clear hwa1
  refine (rvalidRQ (Fz.mk h0 k0)).mono ?_
  rintro e w2 ⟨rfl, hup⟩
  replace hk2 := hk2.up hup
  replace hk3 := hk3.up hup
  replace hk4 := hk4.up hup
  replace h0 := h0.up hup
  replace k0 := k0.up hup
  replace h1 := h1.up hup
  replace k1 := k1.up hup
  replace hupw := hupw.trans hup
  clear hup
  have hk3c0 := hk3.cell (i := 0) rfl
  have hk3c1 := hk3.cell (i := 1) rfl
  have hk3c2 := hk3.cell (i := 2) rfl
  have hk3c3 := hk3.cell (i := 3) rfl
  have hk3l := hk3.lt
  go_wp2_with fail
  clear hk3c0 hk3c1 hk3c2 hk3c3 hk3l
  refine (rvalidRQ (Fz.mk h1 k1)).mono ?_
  rintro e w3 ⟨rfl, hup⟩
  replace hk2 := hk2.up hup
  replace hk3 := hk3.up hup
  replace hk4 := hk4.up hup
  replace h0 := h0.up hup
  replace k0 := k0.up hup
  replace h1 := h1.up hup
  replace k1 := k1.up hup
  replace hupw := hupw.trans hup
  clear hup
  have hk3c0 := hk3.cell (i := 0) rfl
  have hk3c1 := hk3.cell (i := 1) rfl
  have hk3c2 := hk3.cell (i := 2) rfl
  have hk3c3 := hk3.cell (i := 3) rfl
  have hk3l := hk3.lt
  go_wp2_with fail
  clear hk3c0 hk3c1 hk3c2 hk3c3 hk3l
  refine (rsignQ (-1) h1 (Int.sign_eq_neg_one_of_neg hq)).mono ?_
  rintro e w4 ⟨rfl, hup⟩
  replace hk2 := hk2.up hup
  replace hk3 := hk3.up hup
  replace hk4 := hk4.up hup
  replace h0 := h0.up hup
  replace k0 := k0.up hup
  replace h1 := h1.up hup
  replace k1 := k1.up hup
  replace hupw := hupw.trans hup
  clear hup
  have hk2c0 := hk2.cell (i := 0) rfl
  have hk2c1 := hk2.cell (i := 1) rfl
  have hk2c2 := hk2.cell (i := 2) rfl
  have hk2c3 := hk2.cell (i := 3) rfl
  have hk2l := hk2.lt
  have hk3c0 := hk3.cell (i := 0) rfl
  have hk3c1 := hk3.cell (i := 1) rfl
  have hk3c2 := hk3.cell (i := 2) rfl
  have hk3c3 := hk3.cell (i := 3) rfl
  have hk3l := hk3.lt
  go_wp2_with fail
  clear hk2c0 hk2c1 hk2c2 hk2c3 hk2l hk3c0 hk3c1 hk3c2 hk3c3 hk3l
  refine (rmulN h0 k1 hb).mono ?_
  rintro e w5 ⟨v_6, rfl, h_6, hup⟩
  replace hk2 := hk2.up hup
  replace hk3 := hk3.up hup
  replace hk4 := hk4.up hup
  replace k0 := k0.up hup
  replace h1 := h1.up hup
  replace hupw := hupw.trans hup
  clear hup
  obtain ⟨s_6, A_6, n_6, c_6, rfl⟩ := h_6.agg
  have hk2c0 := hk2.cell (i := 0) rfl
  have hk2c1 := hk2.cell (i := 1) rfl
  have hk2c2 := hk2.cell (i := 2) rfl
  have hk2c3 := hk2.cell (i := 3) rfl
  have hk2l := hk2.lt
  have hk3c0 := hk3.cell (i := 0) rfl
  have hk3c1 := hk3.cell (i := 1) rfl
  have hk3c2 := hk3.cell (i := 2) rfl
  have hk3c3 := hk3.cell (i := 3) rfl
  have hk3l := hk3.lt
  go_wp2_with fail
  clear hk2c0 hk2c1 hk2c2 hk2c3 hk2l hk3c0 hk3c1 hk3c2 hk3c3 hk3l
  obtain ⟨wa7, hwa7⟩ : ∃ x, x = (w5.alloc (.cells #[.bool s_6, .slice A_6 n_6 c_6] 24)) := ⟨_, rfl⟩
  have hup : Up w5 wa7 := by rw [hwa7]; exact ((Up.refl w5).alloc _)
  have howa7 : (w.heap.size + 1 + 1) < w5.heap.size := hk4.lt
  have hzwa7 : w.heap.size ≤ w5.heap.size := hupw.size
  replace hk4 := hk4.up hup
  replace k0 := k0.up hup
  replace h1 := h1.up hup
  replace hupw := hupw.trans hup
  clear hup
  have hk6 : Bk wa7 (w5.heap.size) 24 #[.bool s_6, .slice A_6 n_6 c_6] := by
    have := (Bk.new w5 24 #[.bool s_6, .slice A_6 n_6 c_6])
    rw [hwa7]; simpa using this
  rw [← hwa7]
  clear hwa7
  refine (rmulE k0 h1).mono ?_
  rintro e w8 ⟨v_9, rfl, h_9, hup⟩
  replace hk4 := hk4.up hup
  replace hk6 := hk6.up hup
  replace hupw := hupw.trans hup
  clear hup
  obtain ⟨s_9, A_9, n_9, c_9, rfl⟩ := h_9.agg
  have hk4c0 := hk4.cell (i := 0) rfl
  have hk4c1 := hk4.cell (i := 1) rfl
  have hk4c2 := hk4.cell (i := 2) rfl
  have hk4c3 := hk4.cell (i := 3) rfl
  have hk4l := hk4.lt
  have hk4f0 := hk4.frozen 0
  have hk4f1 := hk4.frozen 1
  have hk4f2 := hk4.frozen 2
  have hk4f3 := hk4.frozen 3
  go_wp2_with fail
  clear hk4c0 hk4c1 hk4c2 hk4c3 hk4l hk4f0 hk4f1 hk4f2 hk4f3
  obtain ⟨ws10, hws10⟩ : ∃ x, x = (st4 w8 (w.heap.size + 1 + 1) (.bool false) (.slice none 0 0) (.bool false) (.slice none 0 0)) := ⟨_, rfl⟩
  replace hk6 := hk6.far4 (g' := (w.heap.size + 1 + 1)) (by omega) (.bool false) (.slice none 0 0) (.bool false) (.slice none 0 0)
  rw [← hws10] at hk6
  replace hupw := hupw.st4 (g := (w.heap.size + 1 + 1)) (by omega) (.bool false) (.slice none 0 0) (.bool false) (.slice none 0 0)
  rw [← hws10] at hupw
  replace hk4 := hk4.four (.bool false) (.slice none 0 0) (.bool false) (.slice none 0 0)
  rw [← hws10] at hk4
  have hszws10 : ws10.heap.size = w8.heap.size := by rw [hws10]; simp [st4]
  unfold st4 at hws10
  rw [← hws10]
  clear hws10
  obtain ⟨wa11, hwa11⟩ : ∃ x, x = (ws10.alloc (.cells #[.bool s_9, .slice A_9 n_9 c_9] 24)) := ⟨_, rfl⟩
  have hup : Up ws10 wa11 := by rw [hwa11]; exact ((Up.refl ws10).alloc _)
  have howa11 : w5.heap.size < w8.heap.size := by have := hk6.lt; omega
  have hzwa11 : w.heap.size ≤ w8.heap.size := by have := hupw.size; omega
  replace hk4 := hk4.up hup
  replace hupw := hupw.trans hup
  clear hup
  have hk8 : Bk wa11 (w8.heap.size) 24 #[.bool s_9, .slice A_9 n_9 c_9] := by
    have := (Bk.new ws10 24 #[.bool s_9, .slice A_9 n_9 c_9])
    rw [hwa11]; simpa [hszws10] using this
  rw [← hwa11]
  clear hwa11
  clear hszws10
  have hk4c0 := hk4.cell (i := 0) rfl
  have hk4c1 := hk4.cell (i := 1) rfl
  have hk4c2 := hk4.cell (i := 2) rfl
  have hk4c3 := hk4.cell (i := 3) rfl
  exact bodyPost_ret (v := .tuple #[.agg #[.bool false, .slice none 0 0, .bool false, .slice none 0 0], .int .i64 3]) (by simp [results, Tryz.results34, go_sem, hk4c0, hk4c1, hk4c2, hk4c3]) rfl ⟨_, rfl, Fz.mk (Iz.zero _) (Iz.zero _), hupw⟩
set_option maxRecDepth 100000 in
set_option maxHeartbeats 4000000 in
theorem rdivRm_2 {a b : Rat} (v0 v1 : Value) (w : World) (f0 : Fz w v0 (nm a) (dn a)) (f1 : Fz w v1 (nm b) (dn b)) (hq : nm b < 0) (hb : okB (nm a * dn b) = true) (hd : okB (dn a * nm b) = false) :
    Calls Tryz.prog 34 #[v0, v1] w (PFE w 0 0 3) := by
  obtain ⟨s0, A0, n0, c0, t0, B0, m0, d0, rfl, h0, k0⟩ := f0
  obtain ⟨s1, A1, n1, c1, t1, B1, m1, d1, rfl, h1, k1⟩ := f1
  have hupw : Up w w := Up.refl w
  go_enter Tryz.func34, Tryz.ntmps34
  go_wp2_with fail
  obtain ⟨wa1, hwa1⟩ : ∃ x, x = (((w.alloc (.cells #[.bool s0, .slice A0 n0 c0, .bool t0, .slice B0 m0 d0] 29)).alloc (.cells #[.bool s1, .slice A1 n1 c1, .bool t1, .slice B1 m1 d1] 29)).alloc (.cells #[.bool false, .slice none 0 0, .bool false, .slice none 0 0] 29)) := ⟨_, rfl⟩
  have hup : Up w wa1 := by rw [hwa1]; exact ((((Up.refl w).alloc _).alloc _).alloc _)
  have hzwa1 : w.heap.size ≤ w.heap.size := hupw.size
  replace h0 := h0.up hup
  replace k0 := k0.up hup
  replace h1 := h1.up hup
  replace k1 := k1.up hup
  replace hupw := hupw.trans hup
  clear hup
  have hk2 : Bk wa1 (w.heap.size) 29 #[.bool s0, .slice A0 n0 c0, .bool t0, .slice B0 m0 d0] := by
    have := (((Bk.new w 29 #[.bool s0, .slice A0 n0 c0, .bool t0, .slice B0 m0 d0]).alloc (.cells #[.bool s1, .slice A1 n1 c1, .bool t1, .slice B1 m1 d1] 29)).alloc (.cells #[.bool false, .slice none 0 0, .bool false, .slice none 0 0] 29))
    rw [hwa1]; simpa using this
  have hk3 : Bk wa1 (w.heap.size + 1) 29 #[.bool s1, .slice A1 n1 c1, .bool t1, .slice B1 m1 d1] := by
    have := ((Bk.new (w.alloc (.cells #[.bool s0, .slice A0 n0 c0, .bool t0, .slice B0 m0 d0] 29)) 29 #[.bool s1, .slice A1 n1 c1, .bool t1, .slice B1 m1 d1]).alloc (.cells #[.bool false, .slice none 0 0, .bool false, .slice none 0 0] 29))
    rw [hwa1]; simpa using this
  have hk4 : Bk wa1 (w.heap.size + 1 + 1) 29 #[.bool false, .slice none 0 0, .bool false, .slice none 0 0] := by
    have := (Bk.new ((w.alloc (.cells #[.bool s0, .slice A0 n0 c0, .bool t0, .slice B0 m0 d0] 29)).alloc (.cells #[.bool s1, .slice A1 n1 c1, .bool t1, .slice B1 m1 d1] 29)) 29 #[.bool false, .slice none 0 0, .bool false, .slice none 0 0])
    rw [hwa1]; simpa using this
  rw [← hwa1]
  clear hwa1
  refine (rvalidRQ (Fz.mk h0 k0)).mono ?_
  rintro e w2 ⟨rfl, hup⟩
  replace hk2 := hk2.up hup
  replace hk3 := hk3.up hup
  replace hk4 := hk4.up hup
  replace h0 := h0.up hup
  replace k0 := k0.up hup
  replace h1 := h1.up hup
  replace k1 := k1.up hup
  replace hupw := hupw.trans hup
  clear hup
  have hk3c0 := hk3.cell (i := 0) rfl
  have hk3c1 := hk3.cell (i := 1) rfl
  have hk3c2 := hk3.cell (i := 2) rfl
  have hk3c3 := hk3.cell (i := 3) rfl
  have hk3l := hk3.lt
  go_wp2_with fail
  clear hk3c0 hk3c1 hk3c2 hk3c3 hk3l
  refine (rvalidRQ (Fz.mk h1 k1)).mono ?_
  rintro e w3 ⟨rfl, hup⟩
  replace hk2 := hk2.up hup
  replace hk3 := hk3.up hup
  replace hk4 := hk4.up hup
  replace h0 := h0.up hup
  replace k0 := k0.up hup
  replace h1 := h1.up hup
  replace k1 := k1.up hup
  replace hupw := hupw.trans hup
  clear hup
  have hk3c0 := hk3.cell (i := 0) rfl
  have hk3c1 := hk3.cell (i := 1) rfl
  have hk3c2 := hk3.cell (i := 2) rfl
  have hk3c3 := hk3.cell (i := 3) rfl
  have hk3l := hk3.lt
  go_wp2_with fail
  clear hk3c0 hk3c1 hk3c2 hk3c3 hk3l
  refine (rsignQ (-1) h1 (Int.sign_eq_neg_one_of_neg hq)).mono ?_
  rintro e w4 ⟨rfl, hup⟩
  replace hk2 := hk2.up hup
  replace hk3 := hk3.up hup
  replace hk4 := hk4.up hup
  replace h0 := h0.up hup
  replace k0 := k0.up hup
  replace h1 := h1.up hup
  replace k1 := k1.up hup
  replace hupw := hupw.trans hup
  clear hup
  have hk2c0 := hk2.cell (i := 0) rfl
  have hk2c1 := hk2.cell (i := 1) rfl
  have hk2c2 := hk2.cell (i := 2) rfl
  have hk2c3 := hk2.cell (i := 3) rfl
  have hk2l := hk2.lt
  have hk3c0 := hk3.cell (i := 0) rfl
  have hk3c1 := hk3.cell (i := 1) rfl
  have hk3c2 := hk3.cell (i := 2) rfl
  have hk3c3 := hk3.cell (i := 3) rfl
  have hk3l := hk3.lt
  go_wp2_with fail
  clear hk2c0 hk2c1 hk2c2 hk2c3 hk2l hk3c0 hk3c1 hk3c2 hk3c3 hk3l
  refine (rmulQ h0 k1 hb).mono ?_
  rintro e w5 ⟨v_6, rfl, h_6, hup⟩
  replace hk2 := hk2.up hup
  replace hk3 := hk3.up hup
  replace hk4 := hk4.up hup
  replace k0 := k0.up hup
  replace h1 := h1.up hup
  replace hupw := hupw.trans hup
  clear hup
  obtain ⟨s_6, A_6, n_6, c_6, rfl⟩ := h_6.agg
  have hk2c0 := hk2.cell (i := 0) rfl
  have hk2c1 := hk2.cell (i := 1) rfl
  have hk2c2 := hk2.cell (i := 2) rfl
  have hk2c3 := hk2.cell (i := 3) rfl
  have hk2l := hk2.lt
  have hk3c0 := hk3.cell (i := 0) rfl
  have hk3c1 := hk3.cell (i := 1) rfl
  have hk3c2 := hk3.cell (i := 2) rfl
  have hk3c3 := hk3.cell (i := 3) rfl
  have hk3l := hk3.lt
  go_wp2_with fail
  clear hk2c0 hk2c1 hk2c2 hk2c3 hk2l hk3c0 hk3c1 hk3c2 hk3c3 hk3l
  obtain ⟨wa7, hwa7⟩ : ∃ x, x = (w5.alloc (.cells #[.bool s_6, .slice A_6 n_6 c_6] 24)) := ⟨_, rfl⟩
  have hup : Up w5 wa7 := by rw [hwa7]; exact ((Up.refl w5).alloc _)
  have howa7 : (w.heap.size + 1 + 1) < w5.heap.size := hk4.lt
  have hzwa7 : w.heap.size ≤ w5.heap.size := hupw.size
  replace hk4 := hk4.up hup
  replace k0 := k0.up hup
  replace h1 := h1.up hup
  replace hupw := hupw.trans hup
  clear hup
  have hk6 : Bk wa7 (w5.heap.size) 24 #[.bool s_6, .slice A_6 n_6 c_6] := by
    have := (Bk.new w5 24 #[.bool s_6, .slice A_6 n_6 c_6])
    rw [hwa7]; simpa using this
  rw [← hwa7]
  clear hwa7
  refine (rmulN k0 h1 hd).mono ?_
  rintro e w8 ⟨v_9, rfl, h_9, hup⟩
  replace hk4 := hk4.up hup
  replace hk6 := hk6.up hup
  replace hupw := hupw.trans hup
  clear hup
  obtain ⟨s_9, A_9, n_9, c_9, rfl⟩ := h_9.agg
  have hk4c0 := hk4.cell (i := 0) rfl
  have hk4c1 := hk4.cell (i := 1) rfl
  have hk4c2 := hk4.cell (i := 2) rfl
  have hk4c3 := hk4.cell (i := 3) rfl
  have hk4l := hk4.lt
  have hk4f0 := hk4.frozen 0
  have hk4f1 := hk4.frozen 1
  have hk4f2 := hk4.frozen 2
  have hk4f3 := hk4.frozen 3
  go_wp2_with fail
  clear hk4c0 hk4c1 hk4c2 hk4c3 hk4l hk4f0 hk4f1 hk4f2 hk4f3
  obtain ⟨ws10, hws10⟩ : ∃ x, x = (st4 w8 (w.heap.size + 1 + 1) (.bool false) (.slice none 0 0) (.bool false) (.slice none 0 0)) := ⟨_, rfl⟩
  replace hk6 := hk6.far4 (g' := (w.heap.size + 1 + 1)) (by omega) (.bool false) (.slice none 0 0) (.bool false) (.slice none 0 0)
  rw [← hws10] at hk6
  replace hupw := hupw.st4 (g := (w.heap.size + 1 + 1)) (by omega) (.bool false) (.slice none 0 0) (.bool false) (.slice none 0 0)
  rw [← hws10] at hupw
  replace hk4 := hk4.four (.bool false) (.slice none 0 0) (.bool false) (.slice none 0 0)
  rw [← hws10] at hk4
  have hszws10 : ws10.heap.size = w8.heap.size := by rw [hws10]; simp [st4]
  unfold st4 at hws10
  rw [← hws10]
  clear hws10
  obtain ⟨wa11, hwa11⟩ : ∃ x, x = (ws10.alloc (.cells #[.bool s_9, .slice A_9 n_9 c_9] 24)) := ⟨_, rfl⟩
  have hup : Up ws10 wa11 := by rw [hwa11]; exact ((Up.refl ws10).alloc _)
  have howa11 : w5.heap.size < w8.heap.size := by have := hk6.lt; omega
  have hzwa11 : w.heap.size ≤ w8.heap.size := by have := hupw.size; omega
  replace hk4 := hk4.up hup
  replace hupw := hupw.trans hup
  clear hup
  have hk8 : Bk wa11 (w8.heap.size) 24 #[.bool s_9, .slice A_9 n_9 c_9] := by
    have := (Bk.new ws10 24 #[.bool s_9, .slice A_9 n_9 c_9])
    rw [hwa11]; simpa [hszws10] using this
  rw [← hwa11]
  clear hwa11
  clear hszws10
  have hk4c0 := hk4.cell (i := 0) rfl
  have hk4c1 := hk4.cell (i := 1) rfl
  have hk4c2 := hk4.cell (i := 2) rfl
  have hk4c3 := hk4.cell (i := 3) rfl
  exact bodyPost_ret (v := .tuple #[.agg #[.bool false, .slice none 0 0, .bool false, .slice none 0 0], .int .i64 3]) (by simp [results, Tryz.results34, go_sem, hk4c0, hk4c1, hk4c2, hk4c3]) rfl ⟨_, rfl, Fz.mk (Iz.zero _) (Iz.zero _), hupw⟩
set_option maxRecDepth 100000 in
set_option maxHeartbeats 4000000 in
theorem rdivRm_3 {a b : Rat} (v0 v1 : Value) (w : World) (f0 : Fz w v0 (nm a) (dn a)) (f1 : Fz w v1 (nm b) (dn b)) (hq : nm b < 0) (hb : okB (nm a * dn b) = true) (hd : okB (dn a * nm b) = true) :
    Calls Tryz.prog 34 #[v0, v1] w (PR w (makeR (nm a * dn b) (dn a * nm b))) := by
  obtain ⟨s0, A0, n0, c0, t0, B0, m0, d0, rfl, h0, k0⟩ := f0
  obtain ⟨s1, A1, n1, c1, t1, B1, m1, d1, rfl, h1, k1⟩ := f1
  have hupw : Up w w := Up.refl w
  go_enter Tryz.func34, Tryz.ntmps34
  go_wp2_with fail
  obtain ⟨wa1, hwa1⟩ : ∃ x, x = (((w.alloc (.cells #[.bool s0, .slice A0 n0 c0, .bool t0, .slice B0 m0 d0] 29)).alloc (.cells #[.bool s1, .slice A1 n1 c1, .bool t1, .slice B1 m1 d1] 29)).alloc (.cells #[.bool false, .slice none 0 0, .bool false, .slice none 0 0] 29)) := ⟨_, rfl⟩
  have hup : Up w wa1 := by rw [hwa1]; exact ((((Up.refl w).alloc _).alloc _).alloc _)
  have hzwa1 : w.heap.size ≤ w.heap.size := hupw.size
  replace h0 := h0.up hup
  replace k0 := k0.up hup
  replace h1 := h1.up hup
  replace k1 := k1.up hup
  replace hupw := hupw.trans hup
  clear hup
  have hk2 : Bk wa1 (w.heap.size) 29 #[.bool s0, .slice A0 n0 c0, .bool t0, .slice B0 m0 d0] := by
    have := (((Bk.new w 29 #[.bool s0, .slice A0 n0 c0, .bool t0, .slice B0 m0 d0]).alloc (.cells #[.bool s1, .slice A1 n1 c1, .bool t1, .slice B1 m1 d1] 29)).alloc (.cells #[.bool false, .slice none 0 0, .bool false, .slice none 0 0] 29))
    rw [hwa1]; simpa using this
  have hk3 : Bk wa1 (w.heap.size + 1) 29 #[.bool s1, .slice A1 n1 c1, .bool t1, .slice B1 m1 d1] := by
    have := ((Bk.new (w.alloc (.cells #[.bool s0, .slice A0 n0 c0, .bool t0, .slice B0 m0 d0] 29)) 29 #[.bool s1, .slice A1 n1 c1, .bool t1, .slice B1 m1 d1]).alloc (.cells #[.bool false, .slice none 0 0, .bool false, .slice none 0 0] 29))
    rw [hwa1]; simpa using this
  have hk4 : Bk wa1 (w.heap.size + 1 + 1) 29 #[.bool false, .slice none 0 0, .bool false, .slice none 0 0] := by
    have := (Bk.new ((w.alloc (.cells #[.bool s0, .slice A0 n0 c0, .bool t0, .slice B0 m0 d0] 29)).alloc (.cells #[.bool s1, .slice A1 n1 c1, .bool t1, .slice B1 m1 d1] 29)) 29 #[.bool false, .slice none 0 0, .bool false, .slice none 0 0])
    rw [hwa1]; simpa using this
  rw [← hwa1]
  clear hwa1
  refine (rvalidRQ (Fz.mk h0 k0)).mono ?_
  rintro e w2 ⟨rfl, hup⟩
  replace hk2 := hk2.up hup
  replace hk3 := hk3.up hup
  replace hk4 := hk4.up hup
  replace h0 := h0.up hup
  replace k0 := k0.up hup
  replace h1 := h1.up hup
  replace k1 := k1.up hup
  replace hupw := hupw.trans hup
  clear hup
  have hk3c0 := hk3.cell (i := 0) rfl
  have hk3c1 := hk3.cell (i := 1) rfl
  have hk3c2 := hk3.cell (i := 2) rfl
  have hk3c3 := hk3.cell (i := 3) rfl
  have hk3l := hk3.lt
  go_wp2_with fail
  clear hk3c0 hk3c1 hk3c2 hk3c3 hk3l
  refine (rvalidRQ (Fz.mk h1 k1)).mono ?_
  rintro e w3 ⟨rfl, hup⟩
  replace hk2 := hk2.up hup
  replace hk3 := hk3.up hup
  replace hk4 := hk4.up hup
  replace h0 := h0.up hup
  replace k0 := k0.up hup
  replace h1 := h1.up hup
  replace k1 := k1.up hup
  replace hupw := hupw.trans hup
  clear hup
  have hk3c0 := hk3.cell (i := 0) rfl
  have hk3c1 := hk3.cell (i := 1) rfl
  have hk3c2 := hk3.cell (i := 2) rfl
  have hk3c3 := hk3.cell (i := 3) rfl
  have hk3l := hk3.lt
  go_wp2_with fail
  clear hk3c0 hk3c1 hk3c2 hk3c3 hk3l
  refine (rsignQ (-1) h1 (Int.sign_eq_neg_one_of_neg hq)).mono ?_
  rintro e w4 ⟨rfl, hup⟩
  replace hk2 := hk2.up hup
  replace hk3 := hk3.up hup
  replace hk4 := hk4.up hup
  replace h0 := h0.up hup
  replace k0 := k0.up hup
  replace h1 := h1.up hup
  replace k1 := k1.up hup
  replace hupw := hupw.trans hup
  clear hup
  have hk2c0 := hk2.cell (i := 0) rfl
  have hk2c1 := hk2.cell (i := 1) rfl
  have hk2c2 := hk2.cell (i := 2) rfl
  have hk2c3 := hk2.cell (i := 3) rfl
  have hk2l := hk2.lt
  have hk3c0 := hk3.cell (i := 0) rfl
  have hk3c1 := hk3.cell (i := 1) rfl
  have hk3c2 := hk3.cell (i := 2) rfl
  have hk3c3 := hk3.cell (i := 3) rfl
  have hk3l := hk3.lt
  go_wp2_with fail
  clear hk2c0 hk2c1 hk2c2 hk2c3 hk2l hk3c0 hk3c1 hk3c2 hk3c3 hk3l
  refine (rmulQ h0 k1 hb).mono ?_
  rintro e w5 ⟨v_6, rfl, h_6, hup⟩
  replace hk2 := hk2.up hup
  replace hk3 := hk3.up hup
  replace hk4 := hk4.up hup
  replace k0 := k0.up hup
  replace h1 := h1.up hup
  replace hupw := hupw.trans hup
  clear hup
  obtain ⟨s_6, A_6, n_6, c_6, rfl⟩ := h_6.agg
  have hk2c0 := hk2.cell (i := 0) rfl
  have hk2c1 := hk2.cell (i := 1) rfl
  have hk2c2 := hk2.cell (i := 2) rfl
  have hk2c3 := hk2.cell (i := 3) rfl
  have hk2l := hk2.lt
  have hk3c0 := hk3.cell (i := 0) rfl
  have hk3c1 := hk3.cell (i := 1) rfl
  have hk3c2 := hk3.cell (i := 2) rfl
  have hk3c3 := hk3.cell (i := 3) rfl
  have hk3l := hk3.lt
  go_wp2_with fail
  clear hk2c0 hk2c1 hk2c2 hk2c3 hk2l hk3c0 hk3c1 hk3c2 hk3c3 hk3l
  obtain ⟨wa7, hwa7⟩ : ∃ x, x = (w5.alloc (.cells #[.bool s_6, .slice A_6 n_6 c_6] 24)) := ⟨_, rfl⟩
  have hup : Up w5 wa7 := by rw [hwa7]; exact ((Up.refl w5).alloc _)
  have howa7 : (w.heap.size + 1 + 1) < w5.heap.size := hk4.lt
  have hzwa7 : w.heap.size ≤ w5.heap.size := hupw.size
  replace hk4 := hk4.up hup
  replace k0 := k0.up hup
  replace h1 := h1.up hup
  replace h_6 := h_6.up hup
  replace hupw := hupw.trans hup
  clear hup
  have hk6 : Bk wa7 (w5.heap.size) 24 #[.bool s_6, .slice A_6 n_6 c_6] := by
    have := (Bk.new w5 24 #[.bool s_6, .slice A_6 n_6 c_6])
    rw [hwa7]; simpa using this
  rw [← hwa7]
  clear hwa7
  refine (rmulQ k0 h1 hd).mono ?_
  rintro e w8 ⟨v_9, rfl, h_9, hup⟩
  replace hk4 := hk4.up hup
  replace hk6 := hk6.up hup
  replace h_6 := h_6.up hup
  replace hupw := hupw.trans hup
  clear hup
  obtain ⟨s_9, A_9, n_9, c_9, rfl⟩ := h_9.agg
  have hk6c0 := hk6.cell (i := 0) rfl
  have hk6c1 := hk6.cell (i := 1) rfl
  have hk6l := hk6.lt
  go_wp2_with fail
  clear hk6c0 hk6c1 hk6l
  obtain ⟨wa10, hwa10⟩ : ∃ x, x = (w8.alloc (.cells #[.bool s_9, .slice A_9 n_9 c_9] 24)) := ⟨_, rfl⟩
  have hup : Up w8 wa10 := by rw [hwa10]; exact ((Up.refl w8).alloc _)
  have howa10 : w5.heap.size < w8.heap.size := hk6.lt
  have hzwa10 : w.heap.size ≤ w8.heap.size := hupw.size
  replace hk4 := hk4.up hup
  replace h_6 := h_6.up hup
  replace h_9 := h_9.up hup
  replace hupw := hupw.trans hup
  clear hup
  have hk8 : Bk wa10 (w8.heap.size) 24 #[.bool s_9, .slice A_9 n_9 c_9] := by
    have := (Bk.new w8 24 #[.bool s_9, .slice A_9 n_9 c_9])
    rw [hwa10]; simpa using this
  rw [← hwa10]
  clear hwa10
  refine (rmakeQ h_6 h_9).mono ?_
  rintro e w11 ⟨vf, rfl, hf, hup⟩
  replace hk4 := hk4.up hup
  replace hupw := hupw.trans hup
  clear hup
  obtain ⟨s_12, A_12, n_12, c_12, s_13, A_13, n_13, c_13, rfl, h_12, h_13⟩ := hf
  have hk4c0 := hk4.cell (i := 0) rfl
  have hk4c1 := hk4.cell (i := 1) rfl
  have hk4c2 := hk4.cell (i := 2) rfl
  have hk4c3 := hk4.cell (i := 3) rfl
  have hk4l := hk4.lt
  have hk4f0 := hk4.frozen 0
  have hk4f1 := hk4.frozen 1
  have hk4f2 := hk4.frozen 2
  have hk4f3 := hk4.frozen 3
  go_wp2_with fail
  clear hk4c0 hk4c1 hk4c2 hk4c3 hk4l hk4f0 hk4f1 hk4f2 hk4f3
  obtain ⟨ws14, hws14⟩ : ∃ x, x = (st4 w11 (w.heap.size + 1 + 1) (.bool s_12) (.slice A_12 n_12 c_12) (.bool s_13) (.slice A_13 n_13 c_13)) := ⟨_, rfl⟩
  have h_12' := h_12.st4 hk4 (noU4 _ _ _ _ _ _ _ _) (.bool s_12) (.slice A_12 n_12 c_12) (.bool s_13) (.slice A_13 n_13 c_13)
  have h_13' := h_13.st4 hk4 (noU4 _ _ _ _ _ _ _ _) (.bool s_12) (.slice A_12 n_12 c_12) (.bool s_13) (.slice A_13 n_13 c_13)
  rw [← hws14] at h_12'
  clear h_12
  have h_12 := h_12'
  clear h_12'
  rw [← hws14] at h_13'
  clear h_13
  have h_13 := h_13'
  clear h_13'
  replace hupw := hupw.st4 (g := (w.heap.size + 1 + 1)) (by omega) (.bool s_12) (.slice A_12 n_12 c_12) (.bool s_13) (.slice A_13 n_13 c_13)
  rw [← hws14] at hupw
  replace hk4 := hk4.four (.bool s_12) (.slice A_12 n_12 c_12) (.bool s_13) (.slice A_13 n_13 c_13)
  rw [← hws14] at hk4
  have hszws14 : ws14.heap.size = w11.heap.size := by rw [hws14]; simp [st4]
  unfold st4 at hws14
  rw [← hws14]
  clear hws14
  clear hszws14
  have hk4c0 := hk4.cell (i := 0) rfl
  have hk4c1 := hk4.cell (i := 1) rfl
  have hk4c2 := hk4.cell (i := 2) rfl
  have hk4c3 := hk4.cell (i := 3) rfl
  exact bodyPost_ret (v := .tuple #[.agg #[.bool s_12, .slice A_12 n_12 c_12, .bool s_13, .slice A_13 n_13 c_13], .int .i64 (makeR (nm a * dn b) (dn a * nm b)).e]) (by simp [results, Tryz.results34, go_sem, hk4c0, hk4c1, hk4c2, hk4c3]) rfl ⟨_, rfl, Fz.mk h_12 h_13, hupw⟩
theorem rdivRmQ {w : World} {v v' : Value} {a b : Rat} (h : Rz w v a) (h' : Rz w v' b) (hq : nm b < 0) : Calls Tryz.prog 34 #[v, v'] w (PR w (quoR (nm a * dn b) (dn a * nm b))) := by
  cases hb : okB (nm a * dn b) with
  | false => exact (rdivRm_1 v v' w h h' hq hb).mono fun _ _ hr => PR.of hr (by unfold quoR; rw [hb]; rfl)
  | true =>
    cases hd : okB (dn a * nm b) with
    | false => exact (rdivRm_2 v v' w h h' hq hb hd).mono fun _ _ hr => PR.of hr (by unfold quoR; rw [hb, hd]; rfl)
    | true =>
      have e2 : makeR (nm a * dn b) (dn a * nm b) = quoR (nm a * dn b) (dn a * nm b) := by
        unfold makeR quoR
        rw [hb, hd, if_neg (Int.mul_ne_zero (dn_ne a) (by omega))]; rfl
      rw [← e2]
      exact rdivRm_3 v v' w h h' hq hb hd
theorem rdivRQ {w : World} {v v' : Value} {a b : Rat} (h : Rz w v a) (h' : Rz w v' b) : Calls Tryz.prog 34 #[v, v'] w (PR w (divR a b)) := by
  unfold divR
  rcases Int.lt_trichotomy (nm b) 0 with hq | hq | hq
  · rw [if_neg (by omega)]; exact rdivRmQ h h' hq
  · rw [if_pos hq]; exact rdivR_0 v v' w h h' hq
  · rw [if_neg (by omega)]; exact rdivRpQ h h' hq
set_option maxRecDepth 100000 in
set_option maxHeartbeats 4000000 in
theorem rcmpR_n {a b : Rat} (v0 v1 : Value) (w : World) (f0 : Fz w v0 (nm a) (dn a)) (f1 : Fz w v1 (nm b) (dn b)) (hc : crossB a b = false) :
    Calls Tryz.prog 35 #[v0, v1] w (PNE w 0 3) := by
  obtain ⟨s0, A0, n0, c0, t0, B0, m0, d0, rfl, h0, k0⟩ := f0
  obtain ⟨s1, A1, n1, c1, t1, B1, m1, d1, rfl, h1, k1⟩ := f1
  have hupw : Up w w := Up.refl w
  go_enter Tryz.func35, Tryz.ntmps35
  go_wp2_with fail
  obtain ⟨wa1, hwa1⟩ : ∃ x, x = ((w.alloc (.cells #[.bool s0, .slice A0 n0 c0, .bool t0, .slice B0 m0 d0] 29)).alloc (.cells #[.bool s1, .slice A1 n1 c1, .bool t1, .slice B1 m1 d1] 29)) := ⟨_, rfl⟩
  have hup : Up w wa1 := by rw [hwa1]; exact (((Up.refl w).alloc _).alloc _)
  have hzwa1 : w.heap.size ≤ w.heap.size := hupw.size
  replace h0 := h0.up hup
  replace k0 := k0.up hup
  replace h1 := h1.up hup
  replace k1 := k1.up hup
  replace hupw := hupw.trans hup
  clear hup
  have hk2 : Bk wa1 (w.heap.size) 29 #[.bool s0, .slice A0 n0 c0, .bool t0, .slice B0 m0 d0] := by
    have := ((Bk.new w 29 #[.bool s0, .slice A0 n0 c0, .bool t0, .slice B0 m0 d0]).alloc (.cells #[.bool s1, .slice A1 n1 c1, .bool t1, .slice B1 m1 d1] 29))
    rw [hwa1]; simpa using this
  have hk3 : Bk wa1 (w.heap.size + 1) 29 #[.bool s1, .slice A1 n1 c1, .bool t1, .slice B1 m1 d1] := by
    have := (Bk.new (w.alloc (.cells #[.bool s0, .slice A0 n0 c0, .bool t0, .slice B0 m0 d0] 29)) 29 #[.bool s1, .slice A1 n1 c1, .bool t1, .slice B1 m1 d1])
    rw [hwa1]; simpa using this
  rw [← hwa1]
  clear hwa1
  refine (crossNQ (Fz.mk h0 k0) (Fz.mk h1 k1) hc).mono ?_
  rintro e w2 ⟨v_3, v_4, v_5, rfl, h_3, h_4, h_5, hup⟩
  replace hk3 := hk3.up hup
  replace hupw := hupw.trans hup
  clear hup
  obtain ⟨s_3, A_3, n_3, c_3, rfl⟩ := h_3.agg
  obtain ⟨s_4, A_4, n_4, c_4, rfl⟩ := h_4.agg
  obtain ⟨s_5, A_5, n_5, c_5, rfl⟩ := h_5.agg
  go_wp2_with fail
  obtain ⟨wa6, hwa6⟩ : ∃ x, x = (((w2.alloc (.cells #[.bool s_3, .slice A_3 n_3 c_3] 24)).alloc (.cells #[.bool s_4, .slice A_4 n_4 c_4] 24)).alloc (.cells #[.bool s_5, .slice A_5 n_5 c_5] 24)) := ⟨_, rfl⟩
  have hup : Up w2 wa6 := by rw [hwa6]; exact ((((Up.refl w2).alloc _).alloc _).alloc _)
  have howa6 : (w.heap.size + 1) < w2.heap.size := hk3.lt
  have hzwa6 : w.heap.size ≤ w2.heap.size := hupw.size
  replace hupw := hupw.trans hup
  clear hup
  have hk6 : Bk wa6 (w2.heap.size) 24 #[.bool s_3, .slice A_3 n_3 c_3] := by
    have := (((Bk.new w2 24 #[.bool s_3, .slice A_3 n_3 c_3]).alloc (.cells #[.bool s_4, .slice A_4 n_4 c_4] 24)).alloc (.cells #[.bool s_5, .slice A_5 n_5 c_5] 24))
    rw [hwa6]; simpa using this
  have hk7 : Bk wa6 (w2.heap.size + 1) 24 #[.bool s_4, .slice A_4 n_4 c_4] := by
    have := ((Bk.new (w2.alloc (.cells #[.bool s_3, .slice A_3 n_3 c_3] 24)) 24 #[.bool s_4, .slice A_4 n_4 c_4]).alloc (.cells #[.bool s_5, .slice A_5 n_5 c_5] 24))
    rw [hwa6]; simpa using this
  have hk8 : Bk wa6 (w2.heap.size + 1 + 1) 24 #[.bool s_5, .slice A_5 n_5 c_5] := by
    have := (Bk.new ((w2.alloc (.cells #[.bool s_3, .slice A_3 n_3 c_3] 24)).alloc (.cells #[.bool s_4, .slice A_4 n_4 c_4] 24)) 24 #[.bool s_5, .slice A_5 n_5 c_5])
    rw [hwa6]; simpa using this
  rw [← hwa6]
  clear hwa6
  go_ret2
  exact ⟨rfl, hupw⟩
set_option maxRecDepth 100000 in
set_option maxHeartbeats 4000000 in
theorem rcmpR_y {a b : Rat} {k : Int} (v0 v1 : Value) (w : World) (f0 : Fz w v0 (nm a) (dn a)) (f1 : Fz w v1 (nm b) (dn b)) (hc : crossB a b = true) (hk : cmpZ (nm a * dn b) (nm b * dn a) = k) :
    Calls Tryz.prog 35 #[v0, v1] w (PNE w k 0) := by
  obtain ⟨s0, A0, n0, c0, t0, B0, m0, d0, rfl, h0, k0⟩ := f0
  obtain ⟨s1, A1, n1, c1, t1, B1, m1, d1, rfl, h1, k1⟩ := f1
  have hupw : Up w w := Up.refl w
  go_enter Tryz.func35, Tryz.ntmps35
  go_wp2_with fail
  obtain ⟨wa1, hwa1⟩ : ∃ x, x = ((w.alloc (.cells #[.bool s0, .slice A0 n0 c0, .bool t0, .slice B0 m0 d0] 29)).alloc (.cells #[.bool s1, .slice A1 n1 c1, .bool t1, .slice B1 m1 d1] 29)) := ⟨_, rfl⟩
  have hup : Up w wa1 := by rw [hwa1]; exact (((Up.refl w).alloc _).alloc _)
  have hzwa1 : w.heap.size ≤ w.heap.size := hupw.size
  replace h0 := h0.up hup
  replace k0 := k0.up hup
  replace h1 := h1.up hup
  replace k1 := k1.up hup
  replace hupw := hupw.trans hup
  clear hup
  have hk2 : Bk wa1 (w.heap.size) 29 #[.bool s0, .slice A0 n0 c0, .bool t0, .slice B0 m0 d0] := by
    have := ((Bk.new w 29 #[.bool s0, .slice A0 n0 c0, .bool t0, .slice B0 m0 d0]).alloc (.cells #[.bool s1, .slice A1 n1 c1, .bool t1, .slice B1 m1 d1] 29))
    rw [hwa1]; simpa using this
  have hk3 : Bk wa1 (w.heap.size + 1) 29 #[.bool s1, .slice A1 n1 c1, .bool t1, .slice B1 m1 d1] := by
    have := (Bk.new (w.alloc (.cells #[.bool s0, .slice A0 n0 c0, .bool t0, .slice B0 m0 d0] 29)) 29 #[.bool s1, .slice A1 n1 c1, .bool t1, .slice B1 m1 d1])
    rw [hwa1]; simpa using this
  rw [← hwa1]
  clear hwa1
  refine (crossQ (Fz.mk h0 k0) (Fz.mk h1 k1) hc).mono ?_
  rintro e w2 ⟨v_3, v_4, v_5, rfl, h_3, h_4, h_5, hup⟩
  replace hk3 := hk3.up hup
  replace hupw := hupw.trans hup
  clear hup
  obtain ⟨s_3, A_3, n_3, c_3, rfl⟩ := h_3.agg
  obtain ⟨s_4, A_4, n_4, c_4, rfl⟩ := h_4.agg
  obtain ⟨s_5, A_5, n_5, c_5, rfl⟩ := h_5.agg
  go_wp2_with fail
  obtain ⟨wa6, hwa6⟩ : ∃ x, x = (((w2.alloc (.cells #[.bool s_3, .slice A_3 n_3 c_3] 24)).alloc (.cells #[.bool s_4, .slice A_4 n_4 c_4] 24)).alloc (.cells #[.bool s_5, .slice A_5 n_5 c_5] 24)) := ⟨_, rfl⟩
  have hup : Up w2 wa6 := by rw [hwa6]; exact ((((Up.refl w2).alloc _).alloc _).alloc _)
  have howa6 : (w.heap.size + 1) < w2.heap.size := hk3.lt
  have hzwa6 : w.heap.size ≤ w2.heap.size := hupw.size
  replace h_3 := h_3.up hup
  replace h_4 := h_4.up hup
  replace hupw := hupw.trans hup
  clear hup
  have hk6 : Bk wa6 (w2.heap.size) 24 #[.bool s_3, .slice A_3 n_3 c_3] := by
    have := (((Bk.new w2 24 #[.bool s_3, .slice A_3 n_3 c_3]).alloc (.cells #[.bool s_4, .slice A_4 n_4 c_4] 24)).alloc (.cells #[.bool s_5, .slice A_5 n_5 c_5] 24))
    rw [hwa6]; simpa using this
  have hk7 : Bk wa6 (w2.heap.size + 1) 24 #[.bool s_4, .slice A_4 n_4 c_4] := by
    have := ((Bk.new (w2.alloc (.cells #[.bool s_3, .slice A_3 n_3 c_3] 24)) 24 #[.bool s_4, .slice A_4 n_4 c_4]).alloc (.cells #[.bool s_5, .slice A_5 n_5 c_5] 24))
    rw [hwa6]; simpa using this
  have hk8 : Bk wa6 (w2.heap.size + 1 + 1) 24 #[.bool s_5, .slice A_5 n_5 c_5] := by
    have := (Bk.new ((w2.alloc (.cells #[.bool s_3, .slice A_3 n_3 c_3] 24)).alloc (.cells #[.bool s_4, .slice A_4 n_4 c_4] 24)) 24 #[.bool s_5, .slice A_5 n_5 c_5])
    rw [hwa6]; simpa using this
  rw [← hwa6]
  clear hwa6
  refine (rcmpQ k h_3 h_4 hk).mono ?_
  rintro e w7 ⟨rfl, hup⟩
  replace hupw := hupw.trans hup
  clear hup
  go_wp2_with fail
  go_ret2
  exact ⟨rfl, hupw⟩
theorem rcmpRQ {w : World} {v v' : Value} {a b : Rat} (h : Rz w v a) (h' : Rz w v' b) : Calls Tryz.prog 35 #[v, v'] w (PNE w (cmpV a b) (cmpE a b)) := by
  unfold cmpV cmpE
  cases hb : crossB a b with
  | false => exact rcmpR_n v v' w h h' hb
  | true => exact rcmpR_y v v' w h h' hb rfl
set_option maxRecDepth 100000 in
set_option maxHeartbeats 4000000 in
theorem rzeroQ (w : World)  :
    Calls Tryz.prog 76 #[] w (PF w 0 1) := by
  have hupw : Up w w := Up.refl w
  go_enter Tryz.func76, Tryz.ntmps76
  go_wp2_with fail
  obtain ⟨wa1, hwa1⟩ : ∃ x, x = (w.alloc (.cells #[.bool false, .slice none 0 0, .bool false, .slice none 0 0] 29)) := ⟨_, rfl⟩
  have hup : Up w wa1 := by rw [hwa1]; exact ((Up.refl w).alloc _)
  have hzwa1 : w.heap.size ≤ w.heap.size := hupw.size
  replace hupw := hupw.trans hup
  clear hup
  have hk0 : Bk wa1 (w.heap.size) 29 #[.bool false, .slice none 0 0, .bool false, .slice none 0 0] := by
    have := (Bk.new w 29 #[.bool false, .slice none 0 0, .bool false, .slice none 0 0])
    rw [hwa1]; simpa using this
  rw [← hwa1]
  clear hwa1
  refine (rofQ 1 (by decide) (by decide)).mono ?_
  rintro e w2 ⟨v_3, rfl, h_3, hup⟩
  replace hk0 := hk0.up hup
  replace hupw := hupw.trans hup
  clear hup
  obtain ⟨s_3, A_3, n_3, c_3, rfl⟩ := h_3.agg
  have hk0c0 := hk0.cell (i := 0) rfl
  have hk0c1 := hk0.cell (i := 1) rfl
  have hk0c2 := hk0.cell (i := 2) rfl
  have hk0c3 := hk0.cell (i := 3) rfl
  have hk0l := hk0.lt
  have hk0f0 := hk0.frozen 0
  have hk0f1 := hk0.frozen 1
  have hk0f2 := hk0.frozen 2
  have hk0f3 := hk0.frozen 3
  go_wp2_with fail
  clear hk0c0 hk0c1 hk0c2 hk0c3 hk0l hk0f0 hk0f1 hk0f2 hk0f3
  obtain ⟨ws4, hws4⟩ : ∃ x, x = (st4 w2 w.heap.size (.bool false) (.slice none 0 0) (.bool s_3) (.slice A_3 n_3 c_3)) := ⟨_, rfl⟩
  have h_3' := h_3.st4 hk0 (noU4 _ _ _ _ _ _ _ _) (.bool false) (.slice none 0 0) (.bool s_3) (.slice A_3 n_3 c_3)
  rw [← hws4] at h_3'
  clear h_3
  have h_3 := h_3'
  clear h_3'
  replace hupw := hupw.st4 (g := w.heap.size) (by omega) (.bool false) (.slice none 0 0) (.bool s_3) (.slice A_3 n_3 c_3)
  rw [← hws4] at hupw
  replace hk0 := hk0.four (.bool false) (.slice none 0 0) (.bool s_3) (.slice A_3 n_3 c_3)
  rw [← hws4] at hk0
  have hszws4 : ws4.heap.size = w2.heap.size := by rw [hws4]; simp [st4]
  unfold st4 at hws4
  rw [← hws4]
  clear hws4
  clear hszws4
  have hk0c0 := hk0.cell (i := 0) rfl
  have hk0c1 := hk0.cell (i := 1) rfl
  have hk0c2 := hk0.cell (i := 2) rfl
  have hk0c3 := hk0.cell (i := 3) rfl
  exact bodyPost_ret (v := .agg #[.bool false, .slice none 0 0, .bool s_3, .slice A_3 n_3 c_3]) (by simp [results, Tryz.results76, go_sem, hk0c0, hk0c1, hk0c2, hk0c3]) rfl ⟨_, rfl, Fz.mk (Iz.zero _) h_3, hupw⟩

end Go.Proofs.YtldifgfpecicnaaGreatDoor
