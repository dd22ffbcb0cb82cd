/- Fractions: the arithmetic of the program. -/
import Derived.Test.YtldifgfpecicnaaGreatDoorR4
namespace Go.Proofs.YtldifgfpecicnaaGreatDoor
open Go.RowKit

set_option maxRecDepth 100000 in
set_option maxHeartbeats 4000000 in
theorem comAdd_1 {a b : Rat} (v0 v1 : Value) (w : World) (f0 : Fz w v0 (nm a) (dn a)) (f1 : Fz w v1 (nm b) (dn b)) (hb : (okB (nm a * dn b) && okB (nm b * dn a)) = false) :
    Calls Tryz.prog 62 #[v0, v1, .func (.func 91) #[] #[]] w (PFE w 0 0 3) := by
  obtain ⟨s0, A0, n0, c0, t0, B0, m0, d0, rfl, h0, k0⟩ := f0
  obtain ⟨s1, A1, n1, c1, t1, B1, m1, d1, rfl, h1, k1⟩ := f1
  have hupw : Up w w := Up.refl w
  go_enter Tryz.func62, Tryz.ntmps62
  go_wp2_with fail
  obtain ⟨wa1, hwa1⟩ : ∃ x, x = (((w.alloc (.cells #[.bool s0, .slice A0 n0 c0, .bool t0, .slice B0 m0 d0] 29)).alloc (.cells #[.bool s1, .slice A1 n1 c1, .bool t1, .slice B1 m1 d1] 29)).alloc (.cells #[.bool false, .slice none 0 0, .bool false, .slice none 0 0] 29)) := ⟨_, rfl⟩
  have hup : Up w wa1 := by rw [hwa1]; exact ((((Up.refl w).alloc _).alloc _).alloc _)
  have hzwa1 : w.heap.size ≤ w.heap.size := hupw.size
  replace h0 := h0.up hup
  replace k0 := k0.up hup
  replace h1 := h1.up hup
  replace k1 := k1.up hup
  replace hupw := hupw.trans hup
  clear hup
  have hk3 : Bk wa1 (w.heap.size) 29 #[.bool s0, .slice A0 n0 c0, .bool t0, .slice B0 m0 d0] := by
    have := (((Bk.new w 29 #[.bool s0, .slice A0 n0 c0, .bool t0, .slice B0 m0 d0]).alloc (.cells #[.bool s1, .slice A1 n1 c1, .bool t1, .slice B1 m1 d1] 29)).alloc (.cells #[.bool false, .slice none 0 0, .bool false, .slice none 0 0] 29))
    rw [hwa1]; simpa using this
  have hk4 : Bk wa1 (w.heap.size + 1) 29 #[.bool s1, .slice A1 n1 c1, .bool t1, .slice B1 m1 d1] := by
    have := ((Bk.new (w.alloc (.cells #[.bool s0, .slice A0 n0 c0, .bool t0, .slice B0 m0 d0] 29)) 29 #[.bool s1, .slice A1 n1 c1, .bool t1, .slice B1 m1 d1]).alloc (.cells #[.bool false, .slice none 0 0, .bool false, .slice none 0 0] 29))
    rw [hwa1]; simpa using this
  have hk6 : Bk wa1 (w.heap.size + 1 + 1) 29 #[.bool false, .slice none 0 0, .bool false, .slice none 0 0] := by
    have := (Bk.new ((w.alloc (.cells #[.bool s0, .slice A0 n0 c0, .bool t0, .slice B0 m0 d0] 29)).alloc (.cells #[.bool s1, .slice A1 n1 c1, .bool t1, .slice B1 m1 d1] 29)) 29 #[.bool false, .slice none 0 0, .bool false, .slice none 0 0])
    rw [hwa1]; simpa using this
  rw [← hwa1]
  clear hwa1
  refine (prodN h0 k1 h1 k0 hb).mono ?_
  rintro e w2 ⟨v_3, v_4, rfl, h_3, h_4, hup⟩
  replace hk6 := hk6.up hup
  replace hupw := hupw.trans hup
  clear hup
  obtain ⟨s_3, A_3, n_3, c_3, rfl⟩ := h_3.agg
  obtain ⟨s_4, A_4, n_4, c_4, rfl⟩ := h_4.agg
  have hk6c0 := hk6.cell (i := 0) rfl
  have hk6c1 := hk6.cell (i := 1) rfl
  have hk6c2 := hk6.cell (i := 2) rfl
  have hk6c3 := hk6.cell (i := 3) rfl
  have hk6l := hk6.lt
  have hk6f0 := hk6.frozen 0
  have hk6f1 := hk6.frozen 1
  have hk6f2 := hk6.frozen 2
  have hk6f3 := hk6.frozen 3
  have hk6l1 : (w.heap.size + 1 + 1) < w2.heap.size + 1 := by omega
  go_wp2_with fail
  clear hk6c0 hk6c1 hk6c2 hk6c3 hk6l hk6f0 hk6f1 hk6f2 hk6f3 hk6l1
  obtain ⟨ws5, hws5⟩ : ∃ x, x = (st4 w2 (w.heap.size + 1 + 1) (.bool false) (.slice none 0 0) (.bool false) (.slice none 0 0)) := ⟨_, rfl⟩
  replace hupw := hupw.st4 (g := (w.heap.size + 1 + 1)) (by omega) (.bool false) (.slice none 0 0) (.bool false) (.slice none 0 0)
  rw [← hws5] at hupw
  replace hk6 := hk6.four (.bool false) (.slice none 0 0) (.bool false) (.slice none 0 0)
  rw [← hws5] at hk6
  have hszws5 : ws5.heap.size = w2.heap.size := by rw [hws5]; simp [st4]
  unfold st4 at hws5
  rw [← hws5]
  clear hws5
  obtain ⟨wa6, hwa6⟩ : ∃ x, x = ((ws5.alloc (.cells #[.bool s_3, .slice A_3 n_3 c_3] 24)).alloc (.cells #[.bool s_4, .slice A_4 n_4 c_4] 24)) := ⟨_, rfl⟩
  have hup : Up ws5 wa6 := by rw [hwa6]; exact (((Up.refl ws5).alloc _).alloc _)
  have howa6 : (w.heap.size + 1 + 1) < w2.heap.size := by have := hk6.lt; omega
  have hzwa6 : w.heap.size ≤ w2.heap.size := by have := hupw.size; omega
  replace hk6 := hk6.up hup
  replace hupw := hupw.trans hup
  clear hup
  have hk8 : Bk wa6 (w2.heap.size) 24 #[.bool s_3, .slice A_3 n_3 c_3] := by
    have := ((Bk.new ws5 24 #[.bool s_3, .slice A_3 n_3 c_3]).alloc (.cells #[.bool s_4, .slice A_4 n_4 c_4] 24))
    rw [hwa6]; simpa [hszws5] using this
  have hk9 : Bk wa6 (w2.heap.size + 1) 24 #[.bool s_4, .slice A_4 n_4 c_4] := by
    have := (Bk.new (ws5.alloc (.cells #[.bool s_3, .slice A_3 n_3 c_3] 24)) 24 #[.bool s_4, .slice A_4 n_4 c_4])
    rw [hwa6]; simpa [hszws5] using this
  rw [← hwa6]
  clear hwa6
  clear hszws5
  have hk6c0 := hk6.cell (i := 0) rfl
  have hk6c1 := hk6.cell (i := 1) rfl
  have hk6c2 := hk6.cell (i := 2) rfl
  have hk6c3 := hk6.cell (i := 3) rfl
  exact bodyPost_ret (v := .tuple #[.agg #[.bool false, .slice none 0 0, .bool false, .slice none 0 0], .int .i64 3]) (by simp [results, Tryz.results62, go_sem, hk6c0, hk6c1, hk6c2, hk6c3]) rfl ⟨_, rfl, Fz.mk (Iz.zero _) (Iz.zero _), hupw⟩
set_option maxRecDepth 100000 in
set_option maxHeartbeats 4000000 in
theorem comAdd_2 {a b : Rat} (v0 v1 : Value) (w : World) (f0 : Fz w v0 (nm a) (dn a)) (f1 : Fz w v1 (nm b) (dn b)) (hb : okB (nm a * dn b) = true) (hb2 : okB (nm b * dn a) = true) (hz : okB (nm a * dn b + nm b * dn a) = false) :
    Calls Tryz.prog 62 #[v0, v1, .func (.func 91) #[] #[]] w (PFE w 0 0 3) := by
  obtain ⟨s0, A0, n0, c0, t0, B0, m0, d0, rfl, h0, k0⟩ := f0
  obtain ⟨s1, A1, n1, c1, t1, B1, m1, d1, rfl, h1, k1⟩ := f1
  have hupw : Up w w := Up.refl w
  go_enter Tryz.func62, Tryz.ntmps62
  go_wp2_with fail
  obtain ⟨wa1, hwa1⟩ : ∃ x, x = (((w.alloc (.cells #[.bool s0, .slice A0 n0 c0, .bool t0, .slice B0 m0 d0] 29)).alloc (.cells #[.bool s1, .slice A1 n1 c1, .bool t1, .slice B1 m1 d1] 29)).alloc (.cells #[.bool false, .slice none 0 0, .bool false, .slice none 0 0] 29)) := ⟨_, rfl⟩
  have hup : Up w wa1 := by rw [hwa1]; exact ((((Up.refl w).alloc _).alloc _).alloc _)
  have hzwa1 : w.heap.size ≤ w.heap.size := hupw.size
  replace h0 := h0.up hup
  replace k0 := k0.up hup
  replace h1 := h1.up hup
  replace k1 := k1.up hup
  replace hupw := hupw.trans hup
  clear hup
  have hk3 : Bk wa1 (w.heap.size) 29 #[.bool s0, .slice A0 n0 c0, .bool t0, .slice B0 m0 d0] := by
    have := (((Bk.new w 29 #[.bool s0, .slice A0 n0 c0, .bool t0, .slice B0 m0 d0]).alloc (.cells #[.bool s1, .slice A1 n1 c1, .bool t1, .slice B1 m1 d1] 29)).alloc (.cells #[.bool false, .slice none 0 0, .bool false, .slice none 0 0] 29))
    rw [hwa1]; simpa using this
  have hk4 : Bk wa1 (w.heap.size + 1) 29 #[.bool s1, .slice A1 n1 c1, .bool t1, .slice B1 m1 d1] := by
    have := ((Bk.new (w.alloc (.cells #[.bool s0, .slice A0 n0 c0, .bool t0, .slice B0 m0 d0] 29)) 29 #[.bool s1, .slice A1 n1 c1, .bool t1, .slice B1 m1 d1]).alloc (.cells #[.bool false, .slice none 0 0, .bool false, .slice none 0 0] 29))
    rw [hwa1]; simpa using this
  have hk6 : Bk wa1 (w.heap.size + 1 + 1) 29 #[.bool false, .slice none 0 0, .bool false, .slice none 0 0] := by
    have := (Bk.new ((w.alloc (.cells #[.bool s0, .slice A0 n0 c0, .bool t0, .slice B0 m0 d0] 29)).alloc (.cells #[.bool s1, .slice A1 n1 c1, .bool t1, .slice B1 m1 d1] 29)) 29 #[.bool false, .slice none 0 0, .bool false, .slice none 0 0])
    rw [hwa1]; simpa using this
  rw [← hwa1]
  clear hwa1
  refine (prodQ _ _ _ _ _ h0 k1 h1 k0 hb hb2).mono ?_
  rintro e w2 ⟨v_3, v_4, rfl, h_3, h_4, hup⟩
  replace hk6 := hk6.up hup
  replace hupw := hupw.trans hup
  clear hup
  obtain ⟨s_3, A_3, n_3, c_3, rfl⟩ := h_3.agg
  obtain ⟨s_4, A_4, n_4, c_4, rfl⟩ := h_4.agg
  go_wp2_with fail
  obtain ⟨wa5, hwa5⟩ : ∃ x, x = ((w2.alloc (.cells #[.bool s_3, .slice A_3 n_3 c_3] 24)).alloc (.cells #[.bool s_4, .slice A_4 n_4 c_4] 24)) := ⟨_, rfl⟩
  have hup : Up w2 wa5 := by rw [hwa5]; exact (((Up.refl w2).alloc _).alloc _)
  have howa5 : (w.heap.size + 1 + 1) < w2.heap.size := hk6.lt
  have hzwa5 : w.heap.size ≤ w2.heap.size := hupw.size
  replace hk6 := hk6.up hup
  replace h_3 := h_3.up hup
  replace h_4 := h_4.up hup
  replace hupw := hupw.trans hup
  clear hup
  have hk8 : Bk wa5 (w2.heap.size) 24 #[.bool s_3, .slice A_3 n_3 c_3] := by
    have := ((Bk.new w2 24 #[.bool s_3, .slice A_3 n_3 c_3]).alloc (.cells #[.bool s_4, .slice A_4 n_4 c_4] 24))
    rw [hwa5]; simpa using this
  have hk9 : Bk wa5 (w2.heap.size + 1) 24 #[.bool s_4, .slice A_4 n_4 c_4] := by
    have := (Bk.new (w2.alloc (.cells #[.bool s_3, .slice A_3 n_3 c_3] 24)) 24 #[.bool s_4, .slice A_4 n_4 c_4])
    rw [hwa5]; simpa using this
  rw [← hwa5]
  clear hwa5
  refine (addN h_3 h_4 hz).mono ?_
  rintro e w6 ⟨v_7, rfl, h_7, hup⟩
  replace hk6 := hk6.up hup
  replace hk9 := hk9.up hup
  replace hupw := hupw.trans hup
  clear hup
  obtain ⟨s_7, A_7, n_7, c_7, rfl⟩ := h_7.agg
  have hk6c0 := hk6.cell (i := 0) rfl
  have hk6c1 := hk6.cell (i := 1) rfl
  have hk6c2 := hk6.cell (i := 2) rfl
  have hk6c3 := hk6.cell (i := 3) rfl
  have hk6l := hk6.lt
  have hk6f0 := hk6.frozen 0
  have hk6f1 := hk6.frozen 1
  have hk6f2 := hk6.frozen 2
  have hk6f3 := hk6.frozen 3
  go_wp2_with fail
  clear hk6c0 hk6c1 hk6c2 hk6c3 hk6l hk6f0 hk6f1 hk6f2 hk6f3
  obtain ⟨ws8, hws8⟩ : ∃ x, x = (st4 w6 (w.heap.size + 1 + 1) (.bool false) (.slice none 0 0) (.bool false) (.slice none 0 0)) := ⟨_, rfl⟩
  replace hk9 := hk9.far4 (g' := (w.heap.size + 1 + 1)) (by omega) (.bool false) (.slice none 0 0) (.bool false) (.slice none 0 0)
  rw [← hws8] at hk9
  replace hupw := hupw.st4 (g := (w.heap.size + 1 + 1)) (by omega) (.bool false) (.slice none 0 0) (.bool false) (.slice none 0 0)
  rw [← hws8] at hupw
  replace hk6 := hk6.four (.bool false) (.slice none 0 0) (.bool false) (.slice none 0 0)
  rw [← hws8] at hk6
  have hszws8 : ws8.heap.size = w6.heap.size := by rw [hws8]; simp [st4]
  unfold st4 at hws8
  rw [← hws8]
  clear hws8
  obtain ⟨wa9, hwa9⟩ : ∃ x, x = (ws8.alloc (.cells #[.bool s_7, .slice A_7 n_7 c_7] 24)) := ⟨_, rfl⟩
  have hup : Up ws8 wa9 := by rw [hwa9]; exact ((Up.refl ws8).alloc _)
  have howa9 : (w2.heap.size + 1) < w6.heap.size := by have := hk9.lt; omega
  have hzwa9 : w.heap.size ≤ w6.heap.size := by have := hupw.size; omega
  replace hk6 := hk6.up hup
  replace hupw := hupw.trans hup
  clear hup
  have hk11 : Bk wa9 (w6.heap.size) 24 #[.bool s_7, .slice A_7 n_7 c_7] := by
    have := (Bk.new ws8 24 #[.bool s_7, .slice A_7 n_7 c_7])
    rw [hwa9]; simpa [hszws8] using this
  rw [← hwa9]
  clear hwa9
  clear hszws8
  have hk6c0 := hk6.cell (i := 0) rfl
  have hk6c1 := hk6.cell (i := 1) rfl
  have hk6c2 := hk6.cell (i := 2) rfl
  have hk6c3 := hk6.cell (i := 3) rfl
  exact bodyPost_ret (v := .tuple #[.agg #[.bool false, .slice none 0 0, .bool false, .slice none 0 0], .int .i64 3]) (by simp [results, Tryz.results62, go_sem, hk6c0, hk6c1, hk6c2, hk6c3]) rfl ⟨_, rfl, Fz.mk (Iz.zero _) (Iz.zero _), hupw⟩
set_option maxRecDepth 100000 in
set_option maxHeartbeats 4000000 in
theorem comAdd_3 {a b : Rat} (v0 v1 : Value) (w : World) (f0 : Fz w v0 (nm a) (dn a)) (f1 : Fz w v1 (nm b) (dn b)) (hb : okB (nm a * dn b) = true) (hb2 : okB (nm b * dn a) = true) (hz : okB (nm a * dn b + nm b * dn a) = true) (hd : okB (dn a * dn b) = false) :
    Calls Tryz.prog 62 #[v0, v1, .func (.func 91) #[] #[]] w (PFE w 0 0 3) := by
  obtain ⟨s0, A0, n0, c0, t0, B0, m0, d0, rfl, h0, k0⟩ := f0
  obtain ⟨s1, A1, n1, c1, t1, B1, m1, d1, rfl, h1, k1⟩ := f1
  have hupw : Up w w := Up.refl w
  go_enter Tryz.func62, Tryz.ntmps62
  go_wp2_with fail
  obtain ⟨wa1, hwa1⟩ : ∃ x, x = (((w.alloc (.cells #[.bool s0, .slice A0 n0 c0, .bool t0, .slice B0 m0 d0] 29)).alloc (.cells #[.bool s1, .slice A1 n1 c1, .bool t1, .slice B1 m1 d1] 29)).alloc (.cells #[.bool false, .slice none 0 0, .bool false, .slice none 0 0] 29)) := ⟨_, rfl⟩
  have hup : Up w wa1 := by rw [hwa1]; exact ((((Up.refl w).alloc _).alloc _).alloc _)
  have hzwa1 : w.heap.size ≤ w.heap.size := hupw.size
  replace h0 := h0.up hup
  replace k0 := k0.up hup
  replace h1 := h1.up hup
  replace k1 := k1.up hup
  replace hupw := hupw.trans hup
  clear hup
  have hk3 : Bk wa1 (w.heap.size) 29 #[.bool s0, .slice A0 n0 c0, .bool t0, .slice B0 m0 d0] := by
    have := (((Bk.new w 29 #[.bool s0, .slice A0 n0 c0, .bool t0, .slice B0 m0 d0]).alloc (.cells #[.bool s1, .slice A1 n1 c1, .bool t1, .slice B1 m1 d1] 29)).alloc (.cells #[.bool false, .slice none 0 0, .bool false, .slice none 0 0] 29))
    rw [hwa1]; simpa using this
  have hk4 : Bk wa1 (w.heap.size + 1) 29 #[.bool s1, .slice A1 n1 c1, .bool t1, .slice B1 m1 d1] := by
    have := ((Bk.new (w.alloc (.cells #[.bool s0, .slice A0 n0 c0, .bool t0, .slice B0 m0 d0] 29)) 29 #[.bool s1, .slice A1 n1 c1, .bool t1, .slice B1 m1 d1]).alloc (.cells #[.bool false, .slice none 0 0, .bool false, .slice none 0 0] 29))
    rw [hwa1]; simpa using this
  have hk6 : Bk wa1 (w.heap.size + 1 + 1) 29 #[.bool false, .slice none 0 0, .bool false, .slice none 0 0] := by
    have := (Bk.new ((w.alloc (.cells #[.bool s0, .slice A0 n0 c0, .bool t0, .slice B0 m0 d0] 29)).alloc (.cells #[.bool s1, .slice A1 n1 c1, .bool t1, .slice B1 m1 d1] 29)) 29 #[.bool false, .slice none 0 0, .bool false, .slice none 0 0])
    rw [hwa1]; simpa using this
  rw [← hwa1]
  clear hwa1
  refine (prodQ _ _ _ _ _ h0 k1 h1 k0 hb hb2).mono ?_
  rintro e w2 ⟨v_3, v_4, rfl, h_3, h_4, hup⟩
  replace hk3 := hk3.up hup
  replace hk4 := hk4.up hup
  replace hk6 := hk6.up hup
  replace k0 := k0.up hup
  replace k1 := k1.up hup
  replace hupw := hupw.trans hup
  clear hup
  obtain ⟨s_3, A_3, n_3, c_3, rfl⟩ := h_3.agg
  obtain ⟨s_4, A_4, n_4, c_4, rfl⟩ := h_4.agg
  go_wp2_with fail
  obtain ⟨wa5, hwa5⟩ : ∃ x, x = ((w2.alloc (.cells #[.bool s_3, .slice A_3 n_3 c_3] 24)).alloc (.cells #[.bool s_4, .slice A_4 n_4 c_4] 24)) := ⟨_, rfl⟩
  have hup : Up w2 wa5 := by rw [hwa5]; exact (((Up.refl w2).alloc _).alloc _)
  have howa5 : (w.heap.size + 1 + 1) < w2.heap.size := hk6.lt
  have hzwa5 : w.heap.size ≤ w2.heap.size := hupw.size
  replace hk3 := hk3.up hup
  replace hk4 := hk4.up hup
  replace hk6 := hk6.up hup
  replace k0 := k0.up hup
  replace k1 := k1.up hup
  replace h_3 := h_3.up hup
  replace h_4 := h_4.up hup
  replace hupw := hupw.trans hup
  clear hup
  have hk8 : Bk wa5 (w2.heap.size) 24 #[.bool s_3, .slice A_3 n_3 c_3] := by
    have := ((Bk.new w2 24 #[.bool s_3, .slice A_3 n_3 c_3]).alloc (.cells #[.bool s_4, .slice A_4 n_4 c_4] 24))
    rw [hwa5]; simpa using this
  have hk9 : Bk wa5 (w2.heap.size + 1) 24 #[.bool s_4, .slice A_4 n_4 c_4] := by
    have := (Bk.new (w2.alloc (.cells #[.bool s_3, .slice A_3 n_3 c_3] 24)) 24 #[.bool s_4, .slice A_4 n_4 c_4])
    rw [hwa5]; simpa using this
  rw [← hwa5]
  clear hwa5
  refine (addQ h_3 h_4 hz).mono ?_
  rintro e w6 ⟨v_7, rfl, h_7, hup⟩
  replace hk3 := hk3.up hup
  replace hk4 := hk4.up hup
  replace hk6 := hk6.up hup
  replace hk9 := hk9.up hup
  replace k0 := k0.up hup
  replace k1 := k1.up hup
  replace hupw := hupw.trans hup
  clear hup
  obtain ⟨s_7, A_7, n_7, c_7, rfl⟩ := h_7.agg
  have hk3c0 := hk3.cell (i := 0) rfl
  have hk3c1 := hk3.cell (i := 1) rfl
  have hk3c2 := hk3.cell (i := 2) rfl
  have hk3c3 := hk3.cell (i := 3) rfl
  have hk3l := hk3.lt
  have hk4c0 := hk4.cell (i := 0) rfl
  have hk4c1 := hk4.cell (i := 1) rfl
  have hk4c2 := hk4.cell (i := 2) rfl
  have hk4c3 := hk4.cell (i := 3) rfl
  have hk4l := hk4.lt
  go_wp2_with fail
  clear hk3c0 hk3c1 hk3c2 hk3c3 hk3l hk4c0 hk4c1 hk4c2 hk4c3 hk4l
  obtain ⟨wa8, hwa8⟩ : ∃ x, x = (w6.alloc (.cells #[.bool s_7, .slice A_7 n_7 c_7] 24)) := ⟨_, rfl⟩
  have hup : Up w6 wa8 := by rw [hwa8]; exact ((Up.refl w6).alloc _)
  have howa8 : (w2.heap.size + 1) < w6.heap.size := hk9.lt
  have hzwa8 : w.heap.size ≤ w6.heap.size := hupw.size
  replace hk6 := hk6.up hup
  replace k0 := k0.up hup
  replace k1 := k1.up hup
  replace hupw := hupw.trans hup
  clear hup
  have hk11 : Bk wa8 (w6.heap.size) 24 #[.bool s_7, .slice A_7 n_7 c_7] := by
    have := (Bk.new w6 24 #[.bool s_7, .slice A_7 n_7 c_7])
    rw [hwa8]; simpa using this
  rw [← hwa8]
  clear hwa8
  refine (mulN k0 k1 hd).mono ?_
  rintro e w9 ⟨v_10, rfl, h_10, hup⟩
  replace hk6 := hk6.up hup
  replace hk11 := hk11.up hup
  replace hupw := hupw.trans hup
  clear hup
  obtain ⟨s_10, A_10, n_10, c_10, rfl⟩ := h_10.agg
  have hk6c0 := hk6.cell (i := 0) rfl
  have hk6c1 := hk6.cell (i := 1) rfl
  have hk6c2 := hk6.cell (i := 2) rfl
  have hk6c3 := hk6.cell (i := 3) rfl
  have hk6l := hk6.lt
  have hk6f0 := hk6.frozen 0
  have hk6f1 := hk6.frozen 1
  have hk6f2 := hk6.frozen 2
  have hk6f3 := hk6.frozen 3
  go_wp2_with fail
  clear hk6c0 hk6c1 hk6c2 hk6c3 hk6l hk6f0 hk6f1 hk6f2 hk6f3
  obtain ⟨ws11, hws11⟩ : ∃ x, x = (st4 w9 (w.heap.size + 1 + 1) (.bool false) (.slice none 0 0) (.bool false) (.slice none 0 0)) := ⟨_, rfl⟩
  replace hk11 := hk11.far4 (g' := (w.heap.size + 1 + 1)) (by omega) (.bool false) (.slice none 0 0) (.bool false) (.slice none 0 0)
  rw [← hws11] at hk11
  replace hupw := hupw.st4 (g := (w.heap.size + 1 + 1)) (by omega) (.bool false) (.slice none 0 0) (.bool false) (.slice none 0 0)
  rw [← hws11] at hupw
  replace hk6 := hk6.four (.bool false) (.slice none 0 0) (.bool false) (.slice none 0 0)
  rw [← hws11] at hk6
  have hszws11 : ws11.heap.size = w9.heap.size := by rw [hws11]; simp [st4]
  unfold st4 at hws11
  rw [← hws11]
  clear hws11
  obtain ⟨wa12, hwa12⟩ : ∃ x, x = (ws11.alloc (.cells #[.bool s_10, .slice A_10 n_10 c_10] 24)) := ⟨_, rfl⟩
  have hup : Up ws11 wa12 := by rw [hwa12]; exact ((Up.refl ws11).alloc _)
  have howa12 : w6.heap.size < w9.heap.size := by have := hk11.lt; omega
  have hzwa12 : w.heap.size ≤ w9.heap.size := by have := hupw.size; omega
  replace hk6 := hk6.up hup
  replace hupw := hupw.trans hup
  clear hup
  have hk12 : Bk wa12 (w9.heap.size) 24 #[.bool s_10, .slice A_10 n_10 c_10] := by
    have := (Bk.new ws11 24 #[.bool s_10, .slice A_10 n_10 c_10])
    rw [hwa12]; simpa [hszws11] using this
  rw [← hwa12]
  clear hwa12
  clear hszws11
  have hk6c0 := hk6.cell (i := 0) rfl
  have hk6c1 := hk6.cell (i := 1) rfl
  have hk6c2 := hk6.cell (i := 2) rfl
  have hk6c3 := hk6.cell (i := 3) rfl
  exact bodyPost_ret (v := .tuple #[.agg #[.bool false, .slice none 0 0, .bool false, .slice none 0 0], .int .i64 3]) (by simp [results, Tryz.results62, go_sem, hk6c0, hk6c1, hk6c2, hk6c3]) rfl ⟨_, rfl, Fz.mk (Iz.zero _) (Iz.zero _), hupw⟩
set_option maxRecDepth 100000 in
set_option maxHeartbeats 4000000 in
theorem comAdd_4 {a b : Rat} (v0 v1 : Value) (w : World) (f0 : Fz w v0 (nm a) (dn a)) (f1 : Fz w v1 (nm b) (dn b)) (hb : okB (nm a * dn b) = true) (hb2 : okB (nm b * dn a) = true) (hz : okB (nm a * dn b + nm b * dn a) = true) (hd : okB (dn a * dn b) = true) :
    Calls Tryz.prog 62 #[v0, v1, .func (.func 91) #[] #[]] w (PFE w (nm (fr (nm a * dn b + nm b * dn a) (dn a * dn b))) (dn (fr (nm a * dn b + nm b * dn a) (dn a * dn b))) 0) := by
  obtain ⟨s0, A0, n0, c0, t0, B0, m0, d0, rfl, h0, k0⟩ := f0
  obtain ⟨s1, A1, n1, c1, t1, B1, m1, d1, rfl, h1, k1⟩ := f1
  have hupw : Up w w := Up.refl w
  go_enter Tryz.func62, Tryz.ntmps62
  go_wp2_with fail
  obtain ⟨wa1, hwa1⟩ : ∃ x, x = (((w.alloc (.cells #[.bool s0, .slice A0 n0 c0, .bool t0, .slice B0 m0 d0] 29)).alloc (.cells #[.bool s1, .slice A1 n1 c1, .bool t1, .slice B1 m1 d1] 29)).alloc (.cells #[.bool false, .slice none 0 0, .bool false, .slice none 0 0] 29)) := ⟨_, rfl⟩
  have hup : Up w wa1 := by rw [hwa1]; exact ((((Up.refl w).alloc _).alloc _).alloc _)
  have hzwa1 : w.heap.size ≤ w.heap.size := hupw.size
  replace h0 := h0.up hup
  replace k0 := k0.up hup
  replace h1 := h1.up hup
  replace k1 := k1.up hup
  replace hupw := hupw.trans hup
  clear hup
  have hk3 : Bk wa1 (w.heap.size) 29 #[.bool s0, .slice A0 n0 c0, .bool t0, .slice B0 m0 d0] := by
    have := (((Bk.new w 29 #[.bool s0, .slice A0 n0 c0, .bool t0, .slice B0 m0 d0]).alloc (.cells #[.bool s1, .slice A1 n1 c1, .bool t1, .slice B1 m1 d1] 29)).alloc (.cells #[.bool false, .slice none 0 0, .bool false, .slice none 0 0] 29))
    rw [hwa1]; simpa using this
  have hk4 : Bk wa1 (w.heap.size + 1) 29 #[.bool s1, .slice A1 n1 c1, .bool t1, .slice B1 m1 d1] := by
    have := ((Bk.new (w.alloc (.cells #[.bool s0, .slice A0 n0 c0, .bool t0, .slice B0 m0 d0] 29)) 29 #[.bool s1, .slice A1 n1 c1, .bool t1, .slice B1 m1 d1]).alloc (.cells #[.bool false, .slice none 0 0, .bool false, .slice none 0 0] 29))
    rw [hwa1]; simpa using this
  have hk6 : Bk wa1 (w.heap.size + 1 + 1) 29 #[.bool false, .slice none 0 0, .bool false, .slice none 0 0] := by
    have := (Bk.new ((w.alloc (.cells #[.bool s0, .slice A0 n0 c0, .bool t0, .slice B0 m0 d0] 29)).alloc (.cells #[.bool s1, .slice A1 n1 c1, .bool t1, .slice B1 m1 d1] 29)) 29 #[.bool false, .slice none 0 0, .bool false, .slice none 0 0])
    rw [hwa1]; simpa using this
  rw [← hwa1]
  clear hwa1
  refine (prodQ _ _ _ _ _ h0 k1 h1 k0 hb hb2).mono ?_
  rintro e w2 ⟨v_3, v_4, rfl, h_3, h_4, hup⟩
  replace hk3 := hk3.up hup
  replace hk4 := hk4.up hup
  replace hk6 := hk6.up hup
  replace k0 := k0.up hup
  replace k1 := k1.up hup
  replace hupw := hupw.trans hup
  clear hup
  obtain ⟨s_3, A_3, n_3, c_3, rfl⟩ := h_3.agg
  obtain ⟨s_4, A_4, n_4, c_4, rfl⟩ := h_4.agg
  go_wp2_with fail
  obtain ⟨wa5, hwa5⟩ : ∃ x, x = ((w2.alloc (.cells #[.bool s_3, .slice A_3 n_3 c_3] 24)).alloc (.cells #[.bool s_4, .slice A_4 n_4 c_4] 24)) := ⟨_, rfl⟩
  have hup : Up w2 wa5 := by rw [hwa5]; exact (((Up.refl w2).alloc _).alloc _)
  have howa5 : (w.heap.size + 1 + 1) < w2.heap.size := hk6.lt
  have hzwa5 : w.heap.size ≤ w2.heap.size := hupw.size
  replace hk3 := hk3.up hup
  replace hk4 := hk4.up hup
  replace hk6 := hk6.up hup
  replace k0 := k0.up hup
  replace k1 := k1.up hup
  replace h_3 := h_3.up hup
  replace h_4 := h_4.up hup
  replace hupw := hupw.trans hup
  clear hup
  have hk8 : Bk wa5 (w2.heap.size) 24 #[.bool s_3, .slice A_3 n_3 c_3] := by
    have := ((Bk.new w2 24 #[.bool s_3, .slice A_3 n_3 c_3]).alloc (.cells #[.bool s_4, .slice A_4 n_4 c_4] 24))
    rw [hwa5]; simpa using this
  have hk9 : Bk wa5 (w2.heap.size + 1) 24 #[.bool s_4, .slice A_4 n_4 c_4] := by
    have := (Bk.new (w2.alloc (.cells #[.bool s_3, .slice A_3 n_3 c_3] 24)) 24 #[.bool s_4, .slice A_4 n_4 c_4])
    rw [hwa5]; simpa using this
  rw [← hwa5]
  clear hwa5
  refine (addQ h_3 h_4 hz).mono ?_
  rintro e w6 ⟨v_7, rfl, h_7, hup⟩
  replace hk3 := hk3.up hup
  replace hk4 := hk4.up hup
  replace hk6 := hk6.up hup
  replace hk9 := hk9.up hup
  replace k0 := k0.up hup
  replace k1 := k1.up hup
  replace hupw := hupw.trans hup
  clear hup
  obtain ⟨s_7, A_7, n_7, c_7, rfl⟩ := h_7.agg
  have hk3c0 := hk3.cell (i := 0) rfl
  have hk3c1 := hk3.cell (i := 1) rfl
  have hk3c2 := hk3.cell (i := 2) rfl
  have hk3c3 := hk3.cell (i := 3) rfl
  have hk3l := hk3.lt
  have hk4c0 := hk4.cell (i := 0) rfl
  have hk4c1 := hk4.cell (i := 1) rfl
  have hk4c2 := hk4.cell (i := 2) rfl
  have hk4c3 := hk4.cell (i := 3) rfl
  have hk4l := hk4.lt
  go_wp2_with fail
  clear hk3c0 hk3c1 hk3c2 hk3c3 hk3l hk4c0 hk4c1 hk4c2 hk4c3 hk4l
  obtain ⟨wa8, hwa8⟩ : ∃ x, x = (w6.alloc (.cells #[.bool s_7, .slice A_7 n_7 c_7] 24)) := ⟨_, rfl⟩
  have hup : Up w6 wa8 := by rw [hwa8]; exact ((Up.refl w6).alloc _)
  have howa8 : (w2.heap.size + 1) < w6.heap.size := hk9.lt
  have hzwa8 : w.heap.size ≤ w6.heap.size := hupw.size
  replace hk6 := hk6.up hup
  replace k0 := k0.up hup
  replace k1 := k1.up hup
  replace h_7 := h_7.up hup
  replace hupw := hupw.trans hup
  clear hup
  have hk11 : Bk wa8 (w6.heap.size) 24 #[.bool s_7, .slice A_7 n_7 c_7] := by
    have := (Bk.new w6 24 #[.bool s_7, .slice A_7 n_7 c_7])
    rw [hwa8]; simpa using this
  rw [← hwa8]
  clear hwa8
  refine (mulQ k0 k1 hd).mono ?_
  rintro e w9 ⟨v_10, rfl, h_10, hup⟩
  replace hk6 := hk6.up hup
  replace hk11 := hk11.up hup
  replace h_7 := h_7.up hup
  replace hupw := hupw.trans hup
  clear hup
  obtain ⟨s_10, A_10, n_10, c_10, rfl⟩ := h_10.agg
  have hk11c0 := hk11.cell (i := 0) rfl
  have hk11c1 := hk11.cell (i := 1) rfl
  have hk11l := hk11.lt
  go_wp2_with fail
  clear hk11c0 hk11c1 hk11l
  obtain ⟨wa11, hwa11⟩ : ∃ x, x = (w9.alloc (.cells #[.bool s_10, .slice A_10 n_10 c_10] 24)) := ⟨_, rfl⟩
  have hup : Up w9 wa11 := by rw [hwa11]; exact ((Up.refl w9).alloc _)
  have howa11 : w6.heap.size < w9.heap.size := hk11.lt
  have hzwa11 : w.heap.size ≤ w9.heap.size := hupw.size
  replace hk6 := hk6.up hup
  replace h_7 := h_7.up hup
  replace h_10 := h_10.up hup
  replace hupw := hupw.trans hup
  clear hup
  have hk12 : Bk wa11 (w9.heap.size) 24 #[.bool s_10, .slice A_10 n_10 c_10] := by
    have := (Bk.new w9 24 #[.bool s_10, .slice A_10 n_10 c_10])
    rw [hwa11]; simpa using this
  rw [← hwa11]
  clear hwa11
  refine (lowQ h_7 h_10 (dn_mul_ne a b)).mono ?_
  rintro e w12 ⟨vf, rfl, hf, hup⟩
  replace hk6 := hk6.up hup
  replace hupw := hupw.trans hup
  clear hup
  obtain ⟨s_13, A_13, n_13, c_13, s_14, A_14, n_14, c_14, rfl, h_13, h_14⟩ := hf
  have hk6c0 := hk6.cell (i := 0) rfl
  have hk6c1 := hk6.cell (i := 1) rfl
  have hk6c2 := hk6.cell (i := 2) rfl
  have hk6c3 := hk6.cell (i := 3) rfl
  have hk6l := hk6.lt
  have hk6f0 := hk6.frozen 0
  have hk6f1 := hk6.frozen 1
  have hk6f2 := hk6.frozen 2
  have hk6f3 := hk6.frozen 3
  go_wp2_with fail
  clear hk6c0 hk6c1 hk6c2 hk6c3 hk6l hk6f0 hk6f1 hk6f2 hk6f3
  obtain ⟨ws15, hws15⟩ : ∃ x, x = (st4 w12 (w.heap.size + 1 + 1) (.bool s_13) (.slice A_13 n_13 c_13) (.bool s_14) (.slice A_14 n_14 c_14)) := ⟨_, rfl⟩
  have h_13' := h_13.st4 hk6 (noU4 _ _ _ _ _ _ _ _) (.bool s_13) (.slice A_13 n_13 c_13) (.bool s_14) (.slice A_14 n_14 c_14)
  have h_14' := h_14.st4 hk6 (noU4 _ _ _ _ _ _ _ _) (.bool s_13) (.slice A_13 n_13 c_13) (.bool s_14) (.slice A_14 n_14 c_14)
  rw [← hws15] at h_13'
  clear h_13
  have h_13 := h_13'
  clear h_13'
  rw [← hws15] at h_14'
  clear h_14
  have h_14 := h_14'
  clear h_14'
  replace hupw := hupw.st4 (g := (w.heap.size + 1 + 1)) (by omega) (.bool s_13) (.slice A_13 n_13 c_13) (.bool s_14) (.slice A_14 n_14 c_14)
  rw [← hws15] at hupw
  replace hk6 := hk6.four (.bool s_13) (.slice A_13 n_13 c_13) (.bool s_14) (.slice A_14 n_14 c_14)
  rw [← hws15] at hk6
  have hszws15 : ws15.heap.size = w12.heap.size := by rw [hws15]; simp [st4]
  unfold st4 at hws15
  rw [← hws15]
  clear hws15
  clear hszws15
  have hk6c0 := hk6.cell (i := 0) rfl
  have hk6c1 := hk6.cell (i := 1) rfl
  have hk6c2 := hk6.cell (i := 2) rfl
  have hk6c3 := hk6.cell (i := 3) rfl
  exact bodyPost_ret (v := .tuple #[.agg #[.bool s_13, .slice A_13 n_13 c_13, .bool s_14, .slice A_14 n_14 c_14], .int .i64 0]) (by simp [results, Tryz.results62, go_sem, hk6c0, hk6c1, hk6c2, hk6c3]) rfl ⟨_, rfl, Fz.mk h_13 h_14, hupw⟩
theorem comAddQ {w : World} {v v' : Value} {a b : Rat} (h : Rz w v a) (h' : Rz w v' b) : Calls Tryz.prog 62 #[v, v', .func (.func 91) #[] #[]] w (PR w (comR a b (nm a * dn b + nm b * dn a))) := by
  cases hb : (okB (nm a * dn b) && okB (nm b * dn a)) with
  | false => exact (comAdd_1 v v' w h h' hb).mono fun _ _ hr => PR.of hr (by unfold comR; rw [hb]; rfl)
  | true =>
    have hc := hb
    simp only [Bool.and_eq_true] at hc
    cases hz : okB (nm a * dn b + nm b * dn a) with
    | false => exact (comAdd_2 v v' w h h' hc.1 hc.2 hz).mono fun _ _ hr => PR.of hr (by unfold comR; rw [hb, hz]; rfl)
    | true =>
      cases hd : okB (dn a * dn b) with
      | false => exact (comAdd_3 v v' w h h' hc.1 hc.2 hz hd).mono fun _ _ hr => PR.of hr (by unfold comR; rw [hb, hz, hd]; rfl)
      | true => exact (comAdd_4 v v' w h h' hc.1 hc.2 hz hd).mono fun _ _ hr => PR.of hr (by unfold comR; rw [hb, hz, hd]; rfl)
set_option maxRecDepth 100000 in
set_option maxHeartbeats 4000000 in
theorem comSub_1 {a b : Rat} (v0 v1 : Value) (w : World) (f0 : Fz w v0 (nm a) (dn a)) (f1 : Fz w v1 (nm b) (dn b)) (hb : (okB (nm a * dn b) && okB (nm b * dn a)) = false) :
    Calls Tryz.prog 62 #[v0, v1, .func (.func 63) #[] #[]] w (PFE w 0 0 3) := by
  obtain ⟨s0, A0, n0, c0, t0, B0, m0, d0, rfl, h0, k0⟩ := f0
  obtain ⟨s1, A1, n1, c1, t1, B1, m1, d1, rfl, h1, k1⟩ := f1
  have hupw : Up w w := Up.refl w
  go_enter Tryz.func62, Tryz.ntmps62
  go_wp2_with fail
  obtain ⟨wa1, hwa1⟩ : ∃ x, x = (((w.alloc (.cells #[.bool s0, .slice A0 n0 c0, .bool t0, .slice B0 m0 d0] 29)).alloc (.cells #[.bool s1, .slice A1 n1 c1, .bool t1, .slice B1 m1 d1] 29)).alloc (.cells #[.bool false, .slice none 0 0, .bool false, .slice none 0 0] 29)) := ⟨_, rfl⟩
  have hup : Up w wa1 := by rw [hwa1]; exact ((((Up.refl w).alloc _).alloc _).alloc _)
  have hzwa1 : w.heap.size ≤ w.heap.size := hupw.size
  replace h0 := h0.up hup
  replace k0 := k0.up hup
  replace h1 := h1.up hup
  replace k1 := k1.up hup
  replace hupw := hupw.trans hup
  clear hup
  have hk3 : Bk wa1 (w.heap.size) 29 #[.bool s0, .slice A0 n0 c0, .bool t0, .slice B0 m0 d0] := by
    have := (((Bk.new w 29 #[.bool s0, .slice A0 n0 c0, .bool t0, .slice B0 m0 d0]).alloc (.cells #[.bool s1, .slice A1 n1 c1, .bool t1, .slice B1 m1 d1] 29)).alloc (.cells #[.bool false, .slice none 0 0, .bool false, .slice none 0 0] 29))
    rw [hwa1]; simpa using this
  have hk4 : Bk wa1 (w.heap.size + 1) 29 #[.bool s1, .slice A1 n1 c1, .bool t1, .slice B1 m1 d1] := by
    have := ((Bk.new (w.alloc (.cells #[.bool s0, .slice A0 n0 c0, .bool t0, .slice B0 m0 d0] 29)) 29 #[.bool s1, .slice A1 n1 c1, .bool t1, .slice B1 m1 d1]).alloc (.cells #[.bool false, .slice none 0 0, .bool false, .slice none 0 0] 29))
    rw [hwa1]; simpa using this
  have hk6 : Bk wa1 (w.heap.size + 1 + 1) 29 #[.bool false, .slice none 0 0, .bool false, .slice none 0 0] := by
    have := (Bk.new ((w.alloc (.cells #[.bool s0, .slice A0 n0 c0, .bool t0, .slice B0 m0 d0] 29)).alloc (.cells #[.bool s1, .slice A1 n1 c1, .bool t1, .slice B1 m1 d1] 29)) 29 #[.bool false, .slice none 0 0, .bool false, .slice none 0 0])
    rw [hwa1]; simpa using this
  rw [← hwa1]
  clear hwa1
  refine (prodN h0 k1 h1 k0 hb).mono ?_
  rintro e w2 ⟨v_3, v_4, rfl, h_3, h_4, hup⟩
  replace hk6 := hk6.up hup
  replace hupw := hupw.trans hup
  clear hup
  obtain ⟨s_3, A_3, n_3, c_3, rfl⟩ := h_3.agg
  obtain ⟨s_4, A_4, n_4, c_4, rfl⟩ := h_4.agg
  have hk6c0 := hk6.cell (i := 0) rfl
  have hk6c1 := hk6.cell (i := 1) rfl
  have hk6c2 := hk6.cell (i := 2) rfl
  have hk6c3 := hk6.cell (i := 3) rfl
  have hk6l := hk6.lt
  have hk6f0 := hk6.frozen 0
  have hk6f1 := hk6.frozen 1
  have hk6f2 := hk6.frozen 2
  have hk6f3 := hk6.frozen 3
  have hk6l1 : (w.heap.size + 1 + 1) < w2.heap.size + 1 := by omega
  go_wp2_with fail
  clear hk6c0 hk6c1 hk6c2 hk6c3 hk6l hk6f0 hk6f1 hk6f2 hk6f3 hk6l1
  obtain ⟨ws5, hws5⟩ : ∃ x, x = (st4 w2 (w.heap.size + 1 + 1) (.bool false) (.slice none 0 0) (.bool false) (.slice none 0 0)) := ⟨_, rfl⟩
  replace hupw := hupw.st4 (g := (w.heap.size + 1 + 1)) (by omega) (.bool false) (.slice none 0 0) (.bool false) (.slice none 0 0)
  rw [← hws5] at hupw
  replace hk6 := hk6.four (.bool false) (.slice none 0 0) (.bool false) (.slice none 0 0)
  rw [← hws5] at hk6
  have hszws5 : ws5.heap.size = w2.heap.size := by rw [hws5]; simp [st4]
  unfold st4 at hws5
  rw [← hws5]
  clear hws5
  obtain ⟨wa6, hwa6⟩ : ∃ x, x = ((ws5.alloc (.cells #[.bool s_3, .slice A_3 n_3 c_3] 24)).alloc (.cells #[.bool s_4, .slice A_4 n_4 c_4] 24)) := ⟨_, rfl⟩
  have hup : Up ws5 wa6 := by rw [hwa6]; exact (((Up.refl ws5).alloc _).alloc _)
  have howa6 : (w.heap.size + 1 + 1) < w2.heap.size := by have := hk6.lt; omega
  have hzwa6 : w.heap.size ≤ w2.heap.size := by have := hupw.size; omega
  replace hk6 := hk6.up hup
  replace hupw := hupw.trans hup
  clear hup
  have hk8 : Bk wa6 (w2.heap.size) 24 #[.bool s_3, .slice A_3 n_3 c_3] := by
    have := ((Bk.new ws5 24 #[.bool s_3, .slice A_3 n_3 c_3]).alloc (.cells #[.bool s_4, .slice A_4 n_4 c_4] 24))
    rw [hwa6]; simpa [hszws5] using this
  have hk9 : Bk wa6 (w2.heap.size + 1) 24 #[.bool s_4, .slice A_4 n_4 c_4] := by
    have := (Bk.new (ws5.alloc (.cells #[.bool s_3, .slice A_3 n_3 c_3] 24)) 24 #[.bool s_4, .slice A_4 n_4 c_4])
    rw [hwa6]; simpa [hszws5] using this
  rw [← hwa6]
  clear hwa6
  clear hszws5
  have hk6c0 := hk6.cell (i := 0) rfl
  have hk6c1 := hk6.cell (i := 1) rfl
  have hk6c2 := hk6.cell (i := 2) rfl
  have hk6c3 := hk6.cell (i := 3) rfl
  exact bodyPost_ret (v := .tuple #[.agg #[.bool false, .slice none 0 0, .bool false, .slice none 0 0], .int .i64 3]) (by simp [results, Tryz.results62, go_sem, hk6c0, hk6c1, hk6c2, hk6c3]) rfl ⟨_, rfl, Fz.mk (Iz.zero _) (Iz.zero _), hupw⟩
set_option maxRecDepth 100000 in
set_option maxHeartbeats 4000000 in
theorem comSub_2 {a b : Rat} (v0 v1 : Value) (w : World) (f0 : Fz w v0 (nm a) (dn a)) (f1 : Fz w v1 (nm b) (dn b)) (hb : okB (nm a * dn b) = true) (hb2 : okB (nm b * dn a) = true) (hz : okB (nm a * dn b - nm b * dn a) = false) :
    Calls Tryz.prog 62 #[v0, v1, .func (.func 63) #[] #[]] w (PFE w 0 0 3) := by
  obtain ⟨s0, A0, n0, c0, t0, B0, m0, d0, rfl, h0, k0⟩ := f0
  obtain ⟨s1, A1, n1, c1, t1, B1, m1, d1, rfl, h1, k1⟩ := f1
  have hupw : Up w w := Up.refl w
  go_enter Tryz.func62, Tryz.ntmps62
  go_wp2_with fail
  obtain ⟨wa1, hwa1⟩ : ∃ x, x = (((w.alloc (.cells #[.bool s0, .slice A0 n0 c0, .bool t0, .slice B0 m0 d0] 29)).alloc (.cells #[.bool s1, .slice A1 n1 c1, .bool t1, .slice B1 m1 d1] 29)).alloc (.cells #[.bool false, .slice none 0 0, .bool false, .slice none 0 0] 29)) := ⟨_, rfl⟩
  have hup : Up w wa1 := by rw [hwa1]; exact ((((Up.refl w).alloc _).alloc _).alloc _)
  have hzwa1 : w.heap.size ≤ w.heap.size := hupw.size
  replace h0 := h0.up hup
  replace k0 := k0.up hup
  replace h1 := h1.up hup
  replace k1 := k1.up hup
  replace hupw := hupw.trans hup
  clear hup
  have hk3 : Bk wa1 (w.heap.size) 29 #[.bool s0, .slice A0 n0 c0, .bool t0, .slice B0 m0 d0] := by
    have := (((Bk.new w 29 #[.bool s0, .slice A0 n0 c0, .bool t0, .slice B0 m0 d0]).alloc (.cells #[.bool s1, .slice A1 n1 c1, .bool t1, .slice B1 m1 d1] 29)).alloc (.cells #[.bool false, .slice none 0 0, .bool false, .slice none 0 0] 29))
    rw [hwa1]; simpa using this
  have hk4 : Bk wa1 (w.heap.size + 1) 29 #[.bool s1, .slice A1 n1 c1, .bool t1, .slice B1 m1 d1] := by
    have := ((Bk.new (w.alloc (.cells #[.bool s0, .slice A0 n0 c0, .bool t0, .slice B0 m0 d0] 29)) 29 #[.bool s1, .slice A1 n1 c1, .bool t1, .slice B1 m1 d1]).alloc (.cells #[.bool false, .slice none 0 0, .bool false, .slice none 0 0] 29))
    rw [hwa1]; simpa using this
  have hk6 : Bk wa1 (w.heap.size + 1 + 1) 29 #[.bool false, .slice none 0 0, .bool false, .slice none 0 0] := by
    have := (Bk.new ((w.alloc (.cells #[.bool s0, .slice A0 n0 c0, .bool t0, .slice B0 m0 d0] 29)).alloc (.cells #[.bool s1, .slice A1 n1 c1, .bool t1, .slice B1 m1 d1] 29)) 29 #[.bool false, .slice none 0 0, .bool false, .slice none 0 0])
    rw [hwa1]; simpa using this
  rw [← hwa1]
  clear hwa1
  refine (prodQ _ _ _ _ _ h0 k1 h1 k0 hb hb2).mono ?_
  rintro e w2 ⟨v_3, v_4, rfl, h_3, h_4, hup⟩
  replace hk6 := hk6.up hup
  replace hupw := hupw.trans hup
  clear hup
  obtain ⟨s_3, A_3, n_3, c_3, rfl⟩ := h_3.agg
  obtain ⟨s_4, A_4, n_4, c_4, rfl⟩ := h_4.agg
  go_wp2_with fail
  obtain ⟨wa5, hwa5⟩ : ∃ x, x = ((w2.alloc (.cells #[.bool s_3, .slice A_3 n_3 c_3] 24)).alloc (.cells #[.bool s_4, .slice A_4 n_4 c_4] 24)) := ⟨_, rfl⟩
  have hup : Up w2 wa5 := by rw [hwa5]; exact (((Up.refl w2).alloc _).alloc _)
  have howa5 : (w.heap.size + 1 + 1) < w2.heap.size := hk6.lt
  have hzwa5 : w.heap.size ≤ w2.heap.size := hupw.size
  replace hk6 := hk6.up hup
  replace h_3 := h_3.up hup
  replace h_4 := h_4.up hup
  replace hupw := hupw.trans hup
  clear hup
  have hk8 : Bk wa5 (w2.heap.size) 24 #[.bool s_3, .slice A_3 n_3 c_3] := by
    have := ((Bk.new w2 24 #[.bool s_3, .slice A_3 n_3 c_3]).alloc (.cells #[.bool s_4, .slice A_4 n_4 c_4] 24))
    rw [hwa5]; simpa using this
  have hk9 : Bk wa5 (w2.heap.size + 1) 24 #[.bool s_4, .slice A_4 n_4 c_4] := by
    have := (Bk.new (w2.alloc (.cells #[.bool s_3, .slice A_3 n_3 c_3] 24)) 24 #[.bool s_4, .slice A_4 n_4 c_4])
    rw [hwa5]; simpa using this
  rw [← hwa5]
  clear hwa5
  refine (subN h_3 h_4 hz).mono ?_
  rintro e w6 ⟨v_7, rfl, h_7, hup⟩
  replace hk6 := hk6.up hup
  replace hk9 := hk9.up hup
  replace hupw := hupw.trans hup
  clear hup
  obtain ⟨s_7, A_7, n_7, c_7, rfl⟩ := h_7.agg
  have hk6c0 := hk6.cell (i := 0) rfl
  have hk6c1 := hk6.cell (i := 1) rfl
  have hk6c2 := hk6.cell (i := 2) rfl
  have hk6c3 := hk6.cell (i := 3) rfl
  have hk6l := hk6.lt
  have hk6f0 := hk6.frozen 0
  have hk6f1 := hk6.frozen 1
  have hk6f2 := hk6.frozen 2
  have hk6f3 := hk6.frozen 3
  go_wp2_with fail
  clear hk6c0 hk6c1 hk6c2 hk6c3 hk6l hk6f0 hk6f1 hk6f2 hk6f3
  obtain ⟨ws8, hws8⟩ : ∃ x, x = (st4 w6 (w.heap.size + 1 + 1) (.bool false) (.slice none 0 0) (.bool false) (.slice none 0 0)) := ⟨_, rfl⟩
  replace hk9 := hk9.far4 (g' := (w.heap.size + 1 + 1)) (by omega) (.bool false) (.slice none 0 0) (.bool false) (.slice none 0 0)
  rw [← hws8] at hk9
  replace hupw := hupw.st4 (g := (w.heap.size + 1 + 1)) (by omega) (.bool false) (.slice none 0 0) (.bool false) (.slice none 0 0)
  rw [← hws8] at hupw
  replace hk6 := hk6.four (.bool false) (.slice none 0 0) (.bool false) (.slice none 0 0)
  rw [← hws8] at hk6
  have hszws8 : ws8.heap.size = w6.heap.size := by rw [hws8]; simp [st4]
  unfold st4 at hws8
  rw [← hws8]
  clear hws8
  obtain ⟨wa9, hwa9⟩ : ∃ x, x = (ws8.alloc (.cells #[.bool s_7, .slice A_7 n_7 c_7] 24)) := ⟨_, rfl⟩
  have hup : Up ws8 wa9 := by rw [hwa9]; exact ((Up.refl ws8).alloc _)
  have howa9 : (w2.heap.size + 1) < w6.heap.size := by have := hk9.lt; omega
  have hzwa9 : w.heap.size ≤ w6.heap.size := by have := hupw.size; omega
  replace hk6 := hk6.up hup
  replace hupw := hupw.trans hup
  clear hup
  have hk11 : Bk wa9 (w6.heap.size) 24 #[.bool s_7, .slice A_7 n_7 c_7] := by
    have := (Bk.new ws8 24 #[.bool s_7, .slice A_7 n_7 c_7])
    rw [hwa9]; simpa [hszws8] using this
  rw [← hwa9]
  clear hwa9
  clear hszws8
  have hk6c0 := hk6.cell (i := 0) rfl
  have hk6c1 := hk6.cell (i := 1) rfl
  have hk6c2 := hk6.cell (i := 2) rfl
  have hk6c3 := hk6.cell (i := 3) rfl
  exact bodyPost_ret (v := .tuple #[.agg #[.bool false, .slice none 0 0, .bool false, .slice none 0 0], .int .i64 3]) (by simp [results, Tryz.results62, go_sem, hk6c0, hk6c1, hk6c2, hk6c3]) rfl ⟨_, rfl, Fz.mk (Iz.zero _) (Iz.zero _), hupw⟩
set_option maxRecDepth 100000 in
set_option maxHeartbeats 4000000 in
theorem comSub_3 {a b : Rat} (v0 v1 : Value) (w : World) (f0 : Fz w v0 (nm a) (dn a)) (f1 : Fz w v1 (nm b) (dn b)) (hb : okB (nm a * dn b) = true) (hb2 : okB (nm b * dn a) = true) (hz : okB (nm a * dn b - nm b * dn a) = true) (hd : okB (dn a * dn b) = false) :
    Calls Tryz.prog 62 #[v0, v1, .func (.func 63) #[] #[]] w (PFE w 0 0 3) := by
  obtain ⟨s0, A0, n0, c0, t0, B0, m0, d0, rfl, h0, k0⟩ := f0
  obtain ⟨s1, A1, n1, c1, t1, B1, m1, d1, rfl, h1, k1⟩ := f1
  have hupw : Up w w := Up.refl w
  go_enter Tryz.func62, Tryz.ntmps62
  go_wp2_with fail
  obtain ⟨wa1, hwa1⟩ : ∃ x, x = (((w.alloc (.cells #[.bool s0, .slice A0 n0 c0, .bool t0, .slice B0 m0 d0] 29)).alloc (.cells #[.bool s1, .slice A1 n1 c1, .bool t1, .slice B1 m1 d1] 29)).alloc (.cells #[.bool false, .slice none 0 0, .bool false, .slice none 0 0] 29)) := ⟨_, rfl⟩
  have hup : Up w wa1 := by rw [hwa1]; exact ((((Up.refl w).alloc _).alloc _).alloc _)
  have hzwa1 : w.heap.size ≤ w.heap.size := hupw.size
  replace h0 := h0.up hup
  replace k0 := k0.up hup
  replace h1 := h1.up hup
  replace k1 := k1.up hup
  replace hupw := hupw.trans hup
  clear hup
  have hk3 : Bk wa1 (w.heap.size) 29 #[.bool s0, .slice A0 n0 c0, .bool t0, .slice B0 m0 d0] := by
    have := (((Bk.new w 29 #[.bool s0, .slice A0 n0 c0, .bool t0, .slice B0 m0 d0]).alloc (.cells #[.bool s1, .slice A1 n1 c1, .bool t1, .slice B1 m1 d1] 29)).alloc (.cells #[.bool false, .slice none 0 0, .bool false, .slice none 0 0] 29))
    rw [hwa1]; simpa using this
  have hk4 : Bk wa1 (w.heap.size + 1) 29 #[.bool s1, .slice A1 n1 c1, .bool t1, .slice B1 m1 d1] := by
    have := ((Bk.new (w.alloc (.cells #[.bool s0, .slice A0 n0 c0, .bool t0, .slice B0 m0 d0] 29)) 29 #[.bool s1, .slice A1 n1 c1, .bool t1, .slice B1 m1 d1]).alloc (.cells #[.bool false, .slice none 0 0, .bool false, .slice none 0 0] 29))
    rw [hwa1]; simpa using this
  have hk6 : Bk wa1 (w.heap.size + 1 + 1) 29 #[.bool false, .slice none 0 0, .bool false, .slice none 0 0] := by
    have := (Bk.new ((w.alloc (.cells #[.bool s0, .slice A0 n0 c0, .bool t0, .slice B0 m0 d0] 29)).alloc (.cells #[.bool s1, .slice A1 n1 c1, .bool t1, .slice B1 m1 d1] 29)) 29 #[.bool false, .slice none 0 0, .bool false, .slice none 0 0])
    rw [hwa1]; simpa using this
  rw [← hwa1]
  clear hwa1
  refine (prodQ _ _ _ _ _ h0 k1 h1 k0 hb hb2).mono ?_
  rintro e w2 ⟨v_3, v_4, rfl, h_3, h_4, hup⟩
  replace hk3 := hk3.up hup
  replace hk4 := hk4.up hup
  replace hk6 := hk6.up hup
  replace k0 := k0.up hup
  replace k1 := k1.up hup
  replace hupw := hupw.trans hup
  clear hup
  obtain ⟨s_3, A_3, n_3, c_3, rfl⟩ := h_3.agg
  obtain ⟨s_4, A_4, n_4, c_4, rfl⟩ := h_4.agg
  go_wp2_with fail
  obtain ⟨wa5, hwa5⟩ : ∃ x, x = ((w2.alloc (.cells #[.bool s_3, .slice A_3 n_3 c_3] 24)).alloc (.cells #[.bool s_4, .slice A_4 n_4 c_4] 24)) := ⟨_, rfl⟩
  have hup : Up w2 wa5 := by rw [hwa5]; exact (((Up.refl w2).alloc _).alloc _)
  have howa5 : (w.heap.size + 1 + 1) < w2.heap.size := hk6.lt
  have hzwa5 : w.heap.size ≤ w2.heap.size := hupw.size
  replace hk3 := hk3.up hup
  replace hk4 := hk4.up hup
  replace hk6 := hk6.up hup
  replace k0 := k0.up hup
  replace k1 := k1.up hup
  replace h_3 := h_3.up hup
  replace h_4 := h_4.up hup
  replace hupw := hupw.trans hup
  clear hup
  have hk8 : Bk wa5 (w2.heap.size) 24 #[.bool s_3, .slice A_3 n_3 c_3] := by
    have := ((Bk.new w2 24 #[.bool s_3, .slice A_3 n_3 c_3]).alloc (.cells #[.bool s_4, .slice A_4 n_4 c_4] 24))
    rw [hwa5]; simpa using this
  have hk9 : Bk wa5 (w2.heap.size + 1) 24 #[.bool s_4, .slice A_4 n_4 c_4] := by
    have := (Bk.new (w2.alloc (.cells #[.bool s_3, .slice A_3 n_3 c_3] 24)) 24 #[.bool s_4, .slice A_4 n_4 c_4])
    rw [hwa5]; simpa using this
  rw [← hwa5]
  clear hwa5
  refine (subQ h_3 h_4 hz).mono ?_
  rintro e w6 ⟨v_7, rfl, h_7, hup⟩
  replace hk3 := hk3.up hup
  replace hk4 := hk4.up hup
  replace hk6 := hk6.up hup
  replace hk9 := hk9.up hup
  replace k0 := k0.up hup
  replace k1 := k1.up hup
  replace hupw := hupw.trans hup
  clear hup
  obtain ⟨s_7, A_7, n_7, c_7, rfl⟩ := h_7.agg
  have hk3c0 := hk3.cell (i := 0) rfl
  have hk3c1 := hk3.cell (i := 1) rfl
  have hk3c2 := hk3.cell (i := 2) rfl
  have hk3c3 := hk3.cell (i := 3) rfl
  have hk3l := hk3.lt
  have hk4c0 := hk4.cell (i := 0) rfl
  have hk4c1 := hk4.cell (i := 1) rfl
  have hk4c2 := hk4.cell (i := 2) rfl
  have hk4c3 := hk4.cell (i := 3) rfl
  have hk4l := hk4.lt
  go_wp2_with fail
  clear hk3c0 hk3c1 hk3c2 hk3c3 hk3l hk4c0 hk4c1 hk4c2 hk4c3 hk4l
  obtain ⟨wa8, hwa8⟩ : ∃ x, x = (w6.alloc (.cells #[.bool s_7, .slice A_7 n_7 c_7] 24)) := ⟨_, rfl⟩
  have hup : Up w6 wa8 := by rw [hwa8]; exact ((Up.refl w6).alloc _)
  have howa8 : (w2.heap.size + 1) < w6.heap.size := hk9.lt
  have hzwa8 : w.heap.size ≤ w6.heap.size := hupw.size
  replace hk6 := hk6.up hup
  replace k0 := k0.up hup
  replace k1 := k1.up hup
  replace hupw := hupw.trans hup
  clear hup
  have hk11 : Bk wa8 (w6.heap.size) 24 #[.bool s_7, .slice A_7 n_7 c_7] := by
    have := (Bk.new w6 24 #[.bool s_7, .slice A_7 n_7 c_7])
    rw [hwa8]; simpa using this
  rw [← hwa8]
  clear hwa8
  refine (mulN k0 k1 hd).mono ?_
  rintro e w9 ⟨v_10, rfl, h_10, hup⟩
  replace hk6 := hk6.up hup
  replace hk11 := hk11.up hup
  replace hupw := hupw.trans hup
  clear hup
  obtain ⟨s_10, A_10, n_10, c_10, rfl⟩ := h_10.agg
  have hk6c0 := hk6.cell (i := 0) rfl
  have hk6c1 := hk6.cell (i := 1) rfl
  have hk6c2 := hk6.cell (i := 2) rfl
  have hk6c3 := hk6.cell (i := 3) rfl
  have hk6l := hk6.lt
  have hk6f0 := hk6.frozen 0
  have hk6f1 := hk6.frozen 1
  have hk6f2 := hk6.frozen 2
  have hk6f3 := hk6.frozen 3
  go_wp2_with fail
  clear hk6c0 hk6c1 hk6c2 hk6c3 hk6l hk6f0 hk6f1 hk6f2 hk6f3
  obtain ⟨ws11, hws11⟩ : ∃ x, x = (st4 w9 (w.heap.size + 1 + 1) (.bool false) (.slice none 0 0) (.bool false) (.slice none 0 0)) := ⟨_, rfl⟩
  replace hk11 := hk11.far4 (g' := (w.heap.size + 1 + 1)) (by omega) (.bool false) (.slice none 0 0) (.bool false) (.slice none 0 0)
  rw [← hws11] at hk11
  replace hupw := hupw.st4 (g := (w.heap.size + 1 + 1)) (by omega) (.bool false) (.slice none 0 0) (.bool false) (.slice none 0 0)
  rw [← hws11] at hupw
  replace hk6 := hk6.four (.bool false) (.slice none 0 0) (.bool false) (.slice none 0 0)
  rw [← hws11] at hk6
  have hszws11 : ws11.heap.size = w9.heap.size := by rw [hws11]; simp [st4]
  unfold st4 at hws11
  rw [← hws11]
  clear hws11
  obtain ⟨wa12, hwa12⟩ : ∃ x, x = (ws11.alloc (.cells #[.bool s_10, .slice A_10 n_10 c_10] 24)) := ⟨_, rfl⟩
  have hup : Up ws11 wa12 := by rw [hwa12]; exact ((Up.refl ws11).alloc _)
  have howa12 : w6.heap.size < w9.heap.size := by have := hk11.lt; omega
  have hzwa12 : w.heap.size ≤ w9.heap.size := by have := hupw.size; omega
  replace hk6 := hk6.up hup
  replace hupw := hupw.trans hup
  clear hup
  have hk12 : Bk wa12 (w9.heap.size) 24 #[.bool s_10, .slice A_10 n_10 c_10] := by
    have := (Bk.new ws11 24 #[.bool s_10, .slice A_10 n_10 c_10])
    rw [hwa12]; simpa [hszws11] using this
  rw [← hwa12]
  clear hwa12
  clear hszws11
  have hk6c0 := hk6.cell (i := 0) rfl
  have hk6c1 := hk6.cell (i := 1) rfl
  have hk6c2 := hk6.cell (i := 2) rfl
  have hk6c3 := hk6.cell (i := 3) rfl
  exact bodyPost_ret (v := .tuple #[.agg #[.bool false, .slice none 0 0, .bool false, .slice none 0 0], .int .i64 3]) (by simp [results, Tryz.results62, go_sem, hk6c0, hk6c1, hk6c2, hk6c3]) rfl ⟨_, rfl, Fz.mk (Iz.zero _) (Iz.zero _), hupw⟩
set_option maxRecDepth 100000 in
set_option maxHeartbeats 4000000 in
theorem comSub_4 {a b : Rat} (v0 v1 : Value) (w : World) (f0 : Fz w v0 (nm a) (dn a)) (f1 : Fz w v1 (nm b) (dn b)) (hb : okB (nm a * dn b) = true) (hb2 : okB (nm b * dn a) = true) (hz : okB (nm a * dn b - nm b * dn a) = true) (hd : okB (dn a * dn b) = true) :
    Calls Tryz.prog 62 #[v0, v1, .func (.func 63) #[] #[]] w (PFE w (nm (fr (nm a * dn b - nm b * dn a) (dn a * dn b))) (dn (fr (nm a * dn b - nm b * dn a) (dn a * dn b))) 0) := by
  obtain ⟨s0, A0, n0, c0, t0, B0, m0, d0, rfl, h0, k0⟩ := f0
  obtain ⟨s1, A1, n1, c1, t1, B1, m1, d1, rfl, h1, k1⟩ := f1
  have hupw : Up w w := Up.refl w
  go_enter Tryz.func62, Tryz.ntmps62
  go_wp2_with fail
  obtain ⟨wa1, hwa1⟩ : ∃ x, x = (((w.alloc (.cells #[.bool s0, .slice A0 n0 c0, .bool t0, .slice B0 m0 d0] 29)).alloc (.cells #[.bool s1, .slice A1 n1 c1, .bool t1, .slice B1 m1 d1] 29)).alloc (.cells #[.bool false, .slice none 0 0, .bool false, .slice none 0 0] 29)) := ⟨_, rfl⟩
  have hup : Up w wa1 := by rw [hwa1]; exact ((((Up.refl w).alloc _).alloc _).alloc _)
  have hzwa1 : w.heap.size ≤ w.heap.size := hupw.size
  replace h0 := h0.up hup
  replace k0 := k0.up hup
  replace h1 := h1.up hup
  replace k1 := k1.up hup
  replace hupw := hupw.trans hup
  clear hup
  have hk3 : Bk wa1 (w.heap.size) 29 #[.bool s0, .slice A0 n0 c0, .bool t0, .slice B0 m0 d0] := by
    have := (((Bk.new w 29 #[.bool s0, .slice A0 n0 c0, .bool t0, .slice B0 m0 d0]).alloc (.cells #[.bool s1, .slice A1 n1 c1, .bool t1, .slice B1 m1 d1] 29)).alloc (.cells #[.bool false, .slice none 0 0, .bool false, .slice none 0 0] 29))
    rw [hwa1]; simpa using this
  have hk4 : Bk wa1 (w.heap.size + 1) 29 #[.bool s1, .slice A1 n1 c1, .bool t1, .slice B1 m1 d1] := by
    have := ((Bk.new (w.alloc (.cells #[.bool s0, .slice A0 n0 c0, .bool t0, .slice B0 m0 d0] 29)) 29 #[.bool s1, .slice A1 n1 c1, .bool t1, .slice B1 m1 d1]).alloc (.cells #[.bool false, .slice none 0 0, .bool false, .slice none 0 0] 29))
    rw [hwa1]; simpa using this
  have hk6 : Bk wa1 (w.heap.size + 1 + 1) 29 #[.bool false, .slice none 0 0, .bool false, .slice none 0 0] := by
    have := (Bk.new ((w.alloc (.cells #[.bool s0, .slice A0 n0 c0, .bool t0, .slice B0 m0 d0] 29)).alloc (.cells #[.bool s1, .slice A1 n1 c1, .bool t1, .slice B1 m1 d1] 29)) 29 #[.bool false, .slice none 0 0, .bool false, .slice none 0 0])
    rw [hwa1]; simpa using this
  rw [← hwa1]
  clear hwa1
  refine (prodQ _ _ _ _ _ h0 k1 h1 k0 hb hb2).mono ?_
  rintro e w2 ⟨v_3, v_4, rfl, h_3, h_4, hup⟩
  replace hk3 := hk3.up hup
  replace hk4 := hk4.up hup
  replace hk6 := hk6.up hup
  replace k0 := k0.up hup
  replace k1 := k1.up hup
  replace hupw := hupw.trans hup
  clear hup
  obtain ⟨s_3, A_3, n_3, c_3, rfl⟩ := h_3.agg
  obtain ⟨s_4, A_4, n_4, c_4, rfl⟩ := h_4.agg
  go_wp2_with fail
  obtain ⟨wa5, hwa5⟩ : ∃ x, x = ((w2.alloc (.cells #[.bool s_3, .slice A_3 n_3 c_3] 24)).alloc (.cells #[.bool s_4, .slice A_4 n_4 c_4] 24)) := ⟨_, rfl⟩
  have hup : Up w2 wa5 := by rw [hwa5]; exact (((Up.refl w2).alloc _).alloc _)
  have howa5 : (w.heap.size + 1 + 1) < w2.heap.size := hk6.lt
  have hzwa5 : w.heap.size ≤ w2.heap.size := hupw.size
  replace hk3 := hk3.up hup
  replace hk4 := hk4.up hup
  replace hk6 := hk6.up hup
  replace k0 := k0.up hup
  replace k1 := k1.up hup
  replace h_3 := h_3.up hup
  replace h_4 := h_4.up hup
  replace hupw := hupw.trans hup
  clear hup
  have hk8 : Bk wa5 (w2.heap.size) 24 #[.bool s_3, .slice A_3 n_3 c_3] := by
    have := ((Bk.new w2 24 #[.bool s_3, .slice A_3 n_3 c_3]).alloc (.cells #[.bool s_4, .slice A_4 n_4 c_4] 24))
    rw [hwa5]; simpa using this
  have hk9 : Bk wa5 (w2.heap.size + 1) 24 #[.bool s_4, .slice A_4 n_4 c_4] := by
    have := (Bk.new (w2.alloc (.cells #[.bool s_3, .slice A_3 n_3 c_3] 24)) 24 #[.bool s_4, .slice A_4 n_4 c_4])
    rw [hwa5]; simpa using this
  rw [← hwa5]
  clear hwa5
  refine (subQ h_3 h_4 hz).mono ?_
  rintro e w6 ⟨v_7, rfl, h_7, hup⟩
  replace hk3 := hk3.up hup
  replace hk4 := hk4.up hup
  replace hk6 := hk6.up hup
  replace hk9 := hk9.up hup
  replace k0 := k0.up hup
  replace k1 := k1.up hup
  replace hupw := hupw.trans hup
  clear hup
  obtain ⟨s_7, A_7, n_7, c_7, rfl⟩ := h_7.agg
  have hk3c0 := hk3.cell (i := 0) rfl
  have hk3c1 := hk3.cell (i := 1) rfl
  have hk3c2 := hk3.cell (i := 2) rfl
  have hk3c3 := hk3.cell (i := 3) rfl
  have hk3l := hk3.lt
  have hk4c0 := hk4.cell (i := 0) rfl
  have hk4c1 := hk4.cell (i := 1) rfl
  have hk4c2 := hk4.cell (i := 2) rfl
  have hk4c3 := hk4.cell (i := 3) rfl
  have hk4l := hk4.lt
  go_wp2_with fail
  clear hk3c0 hk3c1 hk3c2 hk3c3 hk3l hk4c0 hk4c1 hk4c2 hk4c3 hk4l
  obtain ⟨wa8, hwa8⟩ : ∃ x, x = (w6.alloc (.cells #[.bool s_7, .slice A_7 n_7 c_7] 24)) := ⟨_, rfl⟩
  have hup : Up w6 wa8 := by rw [hwa8]; exact ((Up.refl w6).alloc _)
  have howa8 : (w2.heap.size + 1) < w6.heap.size := hk9.lt
  have hzwa8 : w.heap.size ≤ w6.heap.size := hupw.size
  replace hk6 := hk6.up hup
  replace k0 := k0.up hup
  replace k1 := k1.up hup
  replace h_7 := h_7.up hup
  replace hupw := hupw.trans hup
  clear hup
  have hk11 : Bk wa8 (w6.heap.size) 24 #[.bool s_7, .slice A_7 n_7 c_7] := by
    have := (Bk.new w6 24 #[.bool s_7, .slice A_7 n_7 c_7])
    rw [hwa8]; simpa using this
  rw [← hwa8]
  clear hwa8
  refine (mulQ k0 k1 hd).mono ?_
  rintro e w9 ⟨v_10, rfl, h_10, hup⟩
  replace hk6 := hk6.up hup
  replace hk11 := hk11.up hup
  replace h_7 := h_7.up hup
  replace hupw := hupw.trans hup
  clear hup
  obtain ⟨s_10, A_10, n_10, c_10, rfl⟩ := h_10.agg
  have hk11c0 := hk11.cell (i := 0) rfl
  have hk11c1 := hk11.cell (i := 1) rfl
  have hk11l := hk11.lt
  go_wp2_with fail
  clear hk11c0 hk11c1 hk11l
  obtain ⟨wa11, hwa11⟩ : ∃ x, x = (w9.alloc (.cells #[.bool s_10, .slice A_10 n_10 c_10] 24)) := ⟨_, rfl⟩
  have hup : Up w9 wa11 := by rw [hwa11]; exact ((Up.refl w9).alloc _)
  have howa11 : w6.heap.size < w9.heap.size := hk11.lt
  have hzwa11 : w.heap.size ≤ w9.heap.size := hupw.size
  replace hk6 := hk6.up hup
  replace h_7 := h_7.up hup
  replace h_10 := h_10.up hup
  replace hupw := hupw.trans hup
  clear hup
  have hk12 : Bk wa11 (w9.heap.size) 24 #[.bool s_10, .slice A_10 n_10 c_10] := by
    have := (Bk.new w9 24 #[.bool s_10, .slice A_10 n_10 c_10])
    rw [hwa11]; simpa using this
  rw [← hwa11]
  clear hwa11
  refine (lowQ h_7 h_10 (dn_mul_ne a b)).mono ?_
  rintro e w12 ⟨vf, rfl, hf, hup⟩
  replace hk6 := hk6.up hup
  replace hupw := hupw.trans hup
  clear hup
  obtain ⟨s_13, A_13, n_13, c_13, s_14, A_14, n_14, c_14, rfl, h_13, h_14⟩ := hf
  have hk6c0 := hk6.cell (i := 0) rfl
  have hk6c1 := hk6.cell (i := 1) rfl
  have hk6c2 := hk6.cell (i := 2) rfl
  have hk6c3 := hk6.cell (i := 3) rfl
  have hk6l := hk6.lt
  have hk6f0 := hk6.frozen 0
  have hk6f1 := hk6.frozen 1
  have hk6f2 := hk6.frozen 2
  have hk6f3 := hk6.frozen 3
  go_wp2_with fail
  clear hk6c0 hk6c1 hk6c2 hk6c3 hk6l hk6f0 hk6f1 hk6f2 hk6f3
  obtain ⟨ws15, hws15⟩ : ∃ x, x = (st4 w12 (w.heap.size + 1 + 1) (.bool s_13) (.slice A_13 n_13 c_13) (.bool s_14) (.slice A_14 n_14 c_14)) := ⟨_, rfl⟩
  have h_13' := h_13.st4 hk6 (noU4 _ _ _ _ _ _ _ _) (.bool s_13) (.slice A_13 n_13 c_13) (.bool s_14) (.slice A_14 n_14 c_14)
  have h_14' := h_14.st4 hk6 (noU4 _ _ _ _ _ _ _ _) (.bool s_13) (.slice A_13 n_13 c_13) (.bool s_14) (.slice A_14 n_14 c_14)
  rw [← hws15] at h_13'
  clear h_13
  have h_13 := h_13'
  clear h_13'
  rw [← hws15] at h_14'
  clear h_14
  have h_14 := h_14'
  clear h_14'
  replace hupw := hupw.st4 (g := (w.heap.size + 1 + 1)) (by omega) (.bool s_13) (.slice A_13 n_13 c_13) (.bool s_14) (.slice A_14 n_14 c_14)
  rw [← hws15] at hupw
  replace hk6 := hk6.four (.bool s_13) (.slice A_13 n_13 c_13) (.bool s_14) (.slice A_14 n_14 c_14)
  rw [← hws15] at hk6
  have hszws15 : ws15.heap.size = w12.heap.size := by rw [hws15]; simp [st4]
  unfold st4 at hws15
  rw [← hws15]
  clear hws15
  clear hszws15
  have hk6c0 := hk6.cell (i := 0) rfl
  have hk6c1 := hk6.cell (i := 1) rfl
  have hk6c2 := hk6.cell (i := 2) rfl
  have hk6c3 := hk6.cell (i := 3) rfl
  exact bodyPost_ret (v := .tuple #[.agg #[.bool s_13, .slice A_13 n_13 c_13, .bool s_14, .slice A_14 n_14 c_14], .int .i64 0]) (by simp [results, Tryz.results62, go_sem, hk6c0, hk6c1, hk6c2, hk6c3]) rfl ⟨_, rfl, Fz.mk h_13 h_14, hupw⟩
theorem comSubQ {w : World} {v v' : Value} {a b : Rat} (h : Rz w v a) (h' : Rz w v' b) : Calls Tryz.prog 62 #[v, v', .func (.func 63) #[] #[]] w (PR w (comR a b (nm a * dn b - nm b * dn a))) := by
  cases hb : (okB (nm a * dn b) && okB (nm b * dn a)) with
  | false => exact (comSub_1 v v' w h h' hb).mono fun _ _ hr => PR.of hr (by unfold comR; rw [hb]; rfl)
  | true =>
    have hc := hb
    simp only [Bool.and_eq_true] at hc
    cases hz : okB (nm a * dn b - nm b * dn a) with
    | false => exact (comSub_2 v v' w h h' hc.1 hc.2 hz).mono fun _ _ hr => PR.of hr (by unfold comR; rw [hb, hz]; rfl)
    | true =>
      cases hd : okB (dn a * dn b) with
      | false => exact (comSub_3 v v' w h h' hc.1 hc.2 hz hd).mono fun _ _ hr => PR.of hr (by unfold comR; rw [hb, hz, hd]; rfl)
      | true => exact (comSub_4 v v' w h h' hc.1 hc.2 hz hd).mono fun _ _ hr => PR.of hr (by unfold comR; rw [hb, hz, hd]; rfl)
set_option maxRecDepth 100000 in
set_option maxHeartbeats 4000000 in
theorem sum_q {a b : Rat} (v0 v1 : Value) (w : World) (f0 : Fz w v0 (nm a) (dn a)) (f1 : Fz w v1 (nm b) (dn b)) :
    Calls Tryz.prog 61 #[v0, v1] w (PR w (addR a b)) := by
  obtain ⟨s0, A0, n0, c0, t0, B0, m0, d0, rfl, h0, k0⟩ := f0
  obtain ⟨s1, A1, n1, c1, t1, B1, m1, d1, rfl, h1, k1⟩ := f1
  have hupw : Up w w := Up.refl w
  go_enter Tryz.func61, Tryz.ntmps61
  go_wp2_with fail
  obtain ⟨wa1, hwa1⟩ : ∃ x, x = (((w.alloc (.cells #[.bool s0, .slice A0 n0 c0, .bool t0, .slice B0 m0 d0] 29)).alloc (.cells #[.bool s1, .slice A1 n1 c1, .bool t1, .slice B1 m1 d1] 29)).alloc (.cells #[.bool false, .slice none 0 0, .bool false, .slice none 0 0] 29)) := ⟨_, rfl⟩
  have hup : Up w wa1 := by rw [hwa1]; exact ((((Up.refl w).alloc _).alloc _).alloc _)
  have hzwa1 : w.heap.size ≤ w.heap.size := hupw.size
  replace h0 := h0.up hup
  replace k0 := k0.up hup
  replace h1 := h1.up hup
  replace k1 := k1.up hup
  replace hupw := hupw.trans hup
  clear hup
  have hk2 : Bk wa1 (w.heap.size) 29 #[.bool s0, .slice A0 n0 c0, .bool t0, .slice B0 m0 d0] := by
    have := (((Bk.new w 29 #[.bool s0, .slice A0 n0 c0, .bool t0, .slice B0 m0 d0]).alloc (.cells #[.bool s1, .slice A1 n1 c1, .bool t1, .slice B1 m1 d1] 29)).alloc (.cells #[.bool false, .slice none 0 0, .bool false, .slice none 0 0] 29))
    rw [hwa1]; simpa using this
  have hk3 : Bk wa1 (w.heap.size + 1) 29 #[.bool s1, .slice A1 n1 c1, .bool t1, .slice B1 m1 d1] := by
    have := ((Bk.new (w.alloc (.cells #[.bool s0, .slice A0 n0 c0, .bool t0, .slice B0 m0 d0] 29)) 29 #[.bool s1, .slice A1 n1 c1, .bool t1, .slice B1 m1 d1]).alloc (.cells #[.bool false, .slice none 0 0, .bool false, .slice none 0 0] 29))
    rw [hwa1]; simpa using this
  have hk4 : Bk wa1 (w.heap.size + 1 + 1) 29 #[.bool false, .slice none 0 0, .bool false, .slice none 0 0] := by
    have := (Bk.new ((w.alloc (.cells #[.bool s0, .slice A0 n0 c0, .bool t0, .slice B0 m0 d0] 29)).alloc (.cells #[.bool s1, .slice A1 n1 c1, .bool t1, .slice B1 m1 d1] 29)) 29 #[.bool false, .slice none 0 0, .bool false, .slice none 0 0])
    rw [hwa1]; simpa using this
  rw [← hwa1]
  clear hwa1
  refine (comAddQ (Fz.mk h0 k0) (Fz.mk h1 k1)).mono ?_
  rintro e w2 ⟨vf, rfl, hf, hup⟩
  replace hk4 := hk4.up hup
  replace hupw := hupw.trans hup
  clear hup
  obtain ⟨s_3, A_3, n_3, c_3, s_4, A_4, n_4, c_4, rfl, h_3, h_4⟩ := hf
  have hk4c0 := hk4.cell (i := 0) rfl
  have hk4c1 := hk4.cell (i := 1) rfl
  have hk4c2 := hk4.cell (i := 2) rfl
  have hk4c3 := hk4.cell (i := 3) rfl
  have hk4l := hk4.lt
  have hk4f0 := hk4.frozen 0
  have hk4f1 := hk4.frozen 1
  have hk4f2 := hk4.frozen 2
  have hk4f3 := hk4.frozen 3
  go_wp2_with fail
  clear hk4c0 hk4c1 hk4c2 hk4c3 hk4l hk4f0 hk4f1 hk4f2 hk4f3
  obtain ⟨ws5, hws5⟩ : ∃ x, x = (st4 w2 (w.heap.size + 1 + 1) (.bool s_3) (.slice A_3 n_3 c_3) (.bool s_4) (.slice A_4 n_4 c_4)) := ⟨_, rfl⟩
  have h_3' := h_3.st4 hk4 (noU4 _ _ _ _ _ _ _ _) (.bool s_3) (.slice A_3 n_3 c_3) (.bool s_4) (.slice A_4 n_4 c_4)
  have h_4' := h_4.st4 hk4 (noU4 _ _ _ _ _ _ _ _) (.bool s_3) (.slice A_3 n_3 c_3) (.bool s_4) (.slice A_4 n_4 c_4)
  rw [← hws5] at h_3'
  clear h_3
  have h_3 := h_3'
  clear h_3'
  rw [← hws5] at h_4'
  clear h_4
  have h_4 := h_4'
  clear h_4'
  replace hupw := hupw.st4 (g := (w.heap.size + 1 + 1)) (by omega) (.bool s_3) (.slice A_3 n_3 c_3) (.bool s_4) (.slice A_4 n_4 c_4)
  rw [← hws5] at hupw
  replace hk4 := hk4.four (.bool s_3) (.slice A_3 n_3 c_3) (.bool s_4) (.slice A_4 n_4 c_4)
  rw [← hws5] at hk4
  have hszws5 : ws5.heap.size = w2.heap.size := by rw [hws5]; simp [st4]
  unfold st4 at hws5
  rw [← hws5]
  clear hws5
  clear hszws5
  have hk4c0 := hk4.cell (i := 0) rfl
  have hk4c1 := hk4.cell (i := 1) rfl
  have hk4c2 := hk4.cell (i := 2) rfl
  have hk4c3 := hk4.cell (i := 3) rfl
  exact bodyPost_ret (v := .tuple #[.agg #[.bool s_3, .slice A_3 n_3 c_3, .bool s_4, .slice A_4 n_4 c_4], .int .i64 (comR a b (nm a * dn b + nm b * dn a)).e]) (by simp [results, Tryz.results61, go_sem, hk4c0, hk4c1, hk4c2, hk4c3]) rfl ⟨_, rfl, Fz.mk h_3 h_4, hupw⟩
/-- Any raw fraction. -/
def Xz (w : World) (v : Value) : Prop := Nz w v ∨ ∃ r, Rz w v r
/-- Two raw fractions, one of which is not valid. -/
def N2 (w : World) (v v' : Value) : Prop := Xz w v ∧ Xz w v' ∧ (Nz w v ∨ Nz w v')
section
variable {w w' : World} {v v' : Value}
theorem Gz.agg4 {P Q : World → Value → Prop} (h : Gz w v P Q) : ∃ s A n c t B m d, v = .agg #[.bool s, .slice A n c, .bool t, .slice B m d] := by
  obtain ⟨s, A, n, c, t, B, m, d, rfl, _⟩ := h
  exact ⟨s, A, n, c, t, B, m, d, rfl⟩
theorem Rz.agg4 {r : Rat} (h : Rz w v r) : ∃ s A n c t B m d, v = .agg #[.bool s, .slice A n c, .bool t, .slice B m d] := by
  obtain ⟨s, A, n, c, t, B, m, d, rfl, _⟩ := h
  exact ⟨s, A, n, c, t, B, m, d, rfl⟩
theorem Nz.agg4 (h : Nz w v) : ∃ s A n c t B m d, v = .agg #[.bool s, .slice A n c, .bool t, .slice B m d] := by
  rcases h with h | h | ⟨p, q, h, _⟩
  · exact h.agg4
  · exact h.agg4
  · exact h.gz.agg4
theorem Xz.agg4 (h : Xz w v) : ∃ s A n c t B m d, v = .agg #[.bool s, .slice A n c, .bool t, .slice B m d] := by
  rcases h with h | ⟨r, h⟩
  · exact h.agg4
  · exact h.agg4
theorem Fz.st2 {p q : Int} {g : Nat} {t : TypeId} {cs : Array Value} (h : Fz w v p q) (hb : Bk w g t cs) (hn : NoU cs) (x y : Value) : Fz ((w.setCell ⟨g, 0, none⟩ x).setCell ⟨g, 1, none⟩ y) v p q := by
  obtain ⟨s, A, n, c, t, B, m, d, rfl, h1, h2⟩ := h
  exact ⟨s, A, n, c, t, B, m, d, rfl, h1.st2 hb hn x y, h2.st2 hb hn x y⟩
theorem Fz.st4 {p q : Int} {g : Nat} {t : TypeId} {cs : Array Value} (h : Fz w v p q) (hb : Bk w g t cs) (hn : NoU cs) (x y a b : Value) : Fz (Go.Proofs.YtldifgfpecicnaaGreatDoor.st4 w g x y a b) v p q := by
  obtain ⟨s, A, n, c, t, B, m, d, rfl, h1, h2⟩ := h
  exact ⟨s, A, n, c, t, B, m, d, rfl, h1.st4 hb hn x y a b, h2.st4 hb hn x y a b⟩
theorem Rz.st2 {r : Rat} {g : Nat} {t : TypeId} {cs : Array Value} (h : Rz w v r) (hb : Bk w g t cs) (hn : NoU cs) (x y : Value) : Rz ((w.setCell ⟨g, 0, none⟩ x).setCell ⟨g, 1, none⟩ y) v r := Fz.st2 h hb hn x y
theorem Rz.st4 {r : Rat} {g : Nat} {t : TypeId} {cs : Array Value} (h : Rz w v r) (hb : Bk w g t cs) (hn : NoU cs) (x y a b : Value) : Rz (Go.Proofs.YtldifgfpecicnaaGreatDoor.st4 w g x y a b) v r := Fz.st4 h hb hn x y a b
theorem Nz.st2 {g : Nat} {t : TypeId} {cs : Array Value} (h : Nz w v) (hb : Bk w g t cs) (hn : NoU cs) (x y : Value) : Nz ((w.setCell ⟨g, 0, none⟩ x).setCell ⟨g, 1, none⟩ y) v := by
  rcases h with h | h | ⟨p, q, h, hl⟩
  · exact .inl (h.up (fun _ h => h.st2 hb hn x y) fun _ h => h.st2 hb hn x y)
  · exact .inr (.inl (h.up (fun _ h => h.st2 hb hn x y) fun _ h => h.st2 hb hn x y))
  · exact .inr (.inr ⟨p, q, h.st2 hb hn x y, hl⟩)
theorem Nz.st4 {g : Nat} {t : TypeId} {cs : Array Value} (h : Nz w v) (hb : Bk w g t cs) (hn : NoU cs) (x y a b : Value) : Nz (Go.Proofs.YtldifgfpecicnaaGreatDoor.st4 w g x y a b) v := by
  rcases h with h | h | ⟨p, q, h, hl⟩
  · exact .inl (h.up (fun _ h => h.st4 hb hn x y a b) fun _ h => h.st4 hb hn x y a b)
  · exact .inr (.inl (h.up (fun _ h => h.st4 hb hn x y a b) fun _ h => h.st4 hb hn x y a b))
  · exact .inr (.inr ⟨p, q, h.st4 hb hn x y a b, hl⟩)
theorem Xz.up (h : Xz w v) (hu : Up w w') : Xz w' v := by
  rcases h with h | ⟨r, h⟩
  · exact .inl (h.up hu)
  · exact .inr ⟨r, h.up hu⟩
theorem Xz.st2 {g : Nat} {t : TypeId} {cs : Array Value} (h : Xz w v) (hb : Bk w g t cs) (hn : NoU cs) (x y : Value) : Xz ((w.setCell ⟨g, 0, none⟩ x).setCell ⟨g, 1, none⟩ y) v := by
  rcases h with h | ⟨r, h⟩
  · exact .inl (h.st2 hb hn x y)
  · exact .inr ⟨r, h.st2 hb hn x y⟩
theorem Xz.st4 {g : Nat} {t : TypeId} {cs : Array Value} (h : Xz w v) (hb : Bk w g t cs) (hn : NoU cs) (x y a b : Value) : Xz (Go.Proofs.YtldifgfpecicnaaGreatDoor.st4 w g x y a b) v := by
  rcases h with h | ⟨r, h⟩
  · exact .inl (h.st4 hb hn x y a b)
  · exact .inr ⟨r, h.st4 hb hn x y a b⟩
theorem N2.up (h : N2 w v v') (hu : Up w w') : N2 w' v v' := ⟨h.1.up hu, h.2.1.up hu, h.2.2.imp (fun k => k.up hu) fun k => k.up hu⟩
theorem N2.st2 {g : Nat} {t : TypeId} {cs : Array Value} (h : N2 w v v') (hb : Bk w g t cs) (hn : NoU cs) (x y : Value) : N2 ((w.setCell ⟨g, 0, none⟩ x).setCell ⟨g, 1, none⟩ y) v v' := ⟨h.1.st2 hb hn x y, h.2.1.st2 hb hn x y, h.2.2.imp (fun k => k.st2 hb hn x y) fun k => k.st2 hb hn x y⟩
theorem N2.st4 {g : Nat} {t : TypeId} {cs : Array Value} (h : N2 w v v') (hb : Bk w g t cs) (hn : NoU cs) (x y a b : Value) : N2 (Go.Proofs.YtldifgfpecicnaaGreatDoor.st4 w g x y a b) v v' := ⟨h.1.st4 hb hn x y a b, h.2.1.st4 hb hn x y a b, h.2.2.imp (fun k => k.st4 hb hn x y a b) fun k => k.st4 hb hn x y a b⟩
end
set_option maxRecDepth 100000 in
set_option maxHeartbeats 4000000 in
theorem both_y {a b : Rat} (v0 v1 : Value) (w : World) (h0 : Rz w v0 a) (h1 : Rz w v1 b) :
    Calls Tryz.prog 58 #[v0, v1] w (PB w true) := by
  obtain ⟨s0, A0, n0, c0, t0, B0, m0, d0, rfl⟩ := h0.agg4
  obtain ⟨s1, A1, n1, c1, t1, B1, m1, d1, rfl⟩ := h1.agg4
  have hupw : Up w w := Up.refl w
  go_enter Tryz.func58, Tryz.ntmps58
  go_wp2_with fail
  obtain ⟨wa1, hwa1⟩ : ∃ x, x = ((w.alloc (.cells #[.bool s0, .slice A0 n0 c0, .bool t0, .slice B0 m0 d0] 29)).alloc (.cells #[.bool s1, .slice A1 n1 c1, .bool t1, .slice B1 m1 d1] 29)) := ⟨_, rfl⟩
  have hup : Up w wa1 := by rw [hwa1]; exact (((Up.refl w).alloc _).alloc _)
  have hzwa1 : w.heap.size ≤ w.heap.size := hupw.size
  replace h0 := h0.up hup
  replace h1 := h1.up hup
  replace hupw := hupw.trans hup
  clear hup
  have hk2 : Bk wa1 (w.heap.size) 29 #[.bool s0, .slice A0 n0 c0, .bool t0, .slice B0 m0 d0] := by
    have := ((Bk.new w 29 #[.bool s0, .slice A0 n0 c0, .bool t0, .slice B0 m0 d0]).alloc (.cells #[.bool s1, .slice A1 n1 c1, .bool t1, .slice B1 m1 d1] 29))
    rw [hwa1]; simpa using this
  have hk3 : Bk wa1 (w.heap.size + 1) 29 #[.bool s1, .slice A1 n1 c1, .bool t1, .slice B1 m1 d1] := by
    have := (Bk.new (w.alloc (.cells #[.bool s0, .slice A0 n0 c0, .bool t0, .slice B0 m0 d0] 29)) 29 #[.bool s1, .slice A1 n1 c1, .bool t1, .slice B1 m1 d1])
    rw [hwa1]; simpa using this
  rw [← hwa1]
  clear hwa1
  refine (validRQ h0).mono ?_
  rintro e w2 ⟨rfl, hup⟩
  replace hk3 := hk3.up hup
  replace h1 := h1.up hup
  replace hupw := hupw.trans hup
  clear hup
  have hk3c0 := hk3.cell (i := 0) rfl
  have hk3c1 := hk3.cell (i := 1) rfl
  have hk3c2 := hk3.cell (i := 2) rfl
  have hk3c3 := hk3.cell (i := 3) rfl
  have hk3l := hk3.lt
  go_wp2_with fail
  clear hk3c0 hk3c1 hk3c2 hk3c3 hk3l
  refine (validRQ h1).mono ?_
  rintro e w3 ⟨rfl, hup⟩
  replace hupw := hupw.trans hup
  clear hup
  go_wp2_with fail
  go_ret
  exact ⟨rfl, hupw⟩
set_option maxRecDepth 100000 in
set_option maxHeartbeats 4000000 in
theorem both_1 (v0 v1 : Value) (w : World) (h0 : Nz w v0) (h1 : Xz w v1) :
    Calls Tryz.prog 58 #[v0, v1] w (PB w false) := by
  obtain ⟨s0, A0, n0, c0, t0, B0, m0, d0, rfl⟩ := h0.agg4
  obtain ⟨s1, A1, n1, c1, t1, B1, m1, d1, rfl⟩ := h1.agg4
  have hupw : Up w w := Up.refl w
  go_enter Tryz.func58, Tryz.ntmps58
  go_wp2_with fail
  obtain ⟨wa1, hwa1⟩ : ∃ x, x = ((w.alloc (.cells #[.bool s0, .slice A0 n0 c0, .bool t0, .slice B0 m0 d0] 29)).alloc (.cells #[.bool s1, .slice A1 n1 c1, .bool t1, .slice B1 m1 d1] 29)) := ⟨_, rfl⟩
  have hup : Up w wa1 := by rw [hwa1]; exact (((Up.refl w).alloc _).alloc _)
  have hzwa1 : w.heap.size ≤ w.heap.size := hupw.size
  replace h0 := h0.up hup
  replace hupw := hupw.trans hup
  clear hup
  have hk2 : Bk wa1 (w.heap.size) 29 #[.bool s0, .slice A0 n0 c0, .bool t0, .slice B0 m0 d0] := by
    have := ((Bk.new w 29 #[.bool s0, .slice A0 n0 c0, .bool t0, .slice B0 m0 d0]).alloc (.cells #[.bool s1, .slice A1 n1 c1, .bool t1, .slice B1 m1 d1] 29))
    rw [hwa1]; simpa using this
  have hk3 : Bk wa1 (w.heap.size + 1) 29 #[.bool s1, .slice A1 n1 c1, .bool t1, .slice B1 m1 d1] := by
    have := (Bk.new (w.alloc (.cells #[.bool s0, .slice A0 n0 c0, .bool t0, .slice B0 m0 d0] 29)) 29 #[.bool s1, .slice A1 n1 c1, .bool t1, .slice B1 m1 d1])
    rw [hwa1]; simpa using this
  rw [← hwa1]
  clear hwa1
  refine (validNQ h0).mono ?_
  rintro e w2 ⟨rfl, hup⟩
  replace hupw := hupw.trans hup
  clear hup
  go_wp2_with fail
  go_ret
  exact ⟨rfl, hupw⟩
set_option maxRecDepth 100000 in
set_option maxHeartbeats 4000000 in
theorem both_2 {a : Rat} (v0 v1 : Value) (w : World) (h0 : Rz w v0 a) (h1 : Nz w v1) :
    Calls Tryz.prog 58 #[v0, v1] w (PB w false) := by
  obtain ⟨s0, A0, n0, c0, t0, B0, m0, d0, rfl⟩ := h0.agg4
  obtain ⟨s1, A1, n1, c1, t1, B1, m1, d1, rfl⟩ := h1.agg4
  have hupw : Up w w := Up.refl w
  go_enter Tryz.func58, Tryz.ntmps58
  go_wp2_with fail
  obtain ⟨wa1, hwa1⟩ : ∃ x, x = ((w.alloc (.cells #[.bool s0, .slice A0 n0 c0, .bool t0, .slice B0 m0 d0] 29)).alloc (.cells #[.bool s1, .slice A1 n1 c1, .bool t1, .slice B1 m1 d1] 29)) := ⟨_, rfl⟩
  have hup : Up w wa1 := by rw [hwa1]; exact (((Up.refl w).alloc _).alloc _)
  have hzwa1 : w.heap.size ≤ w.heap.size := hupw.size
  replace h0 := h0.up hup
  replace h1 := h1.up hup
  replace hupw := hupw.trans hup
  clear hup
  have hk2 : Bk wa1 (w.heap.size) 29 #[.bool s0, .slice A0 n0 c0, .bool t0, .slice B0 m0 d0] := by
    have := ((Bk.new w 29 #[.bool s0, .slice A0 n0 c0, .bool t0, .slice B0 m0 d0]).alloc (.cells #[.bool s1, .slice A1 n1 c1, .bool t1, .slice B1 m1 d1] 29))
    rw [hwa1]; simpa using this
  have hk3 : Bk wa1 (w.heap.size + 1) 29 #[.bool s1, .slice A1 n1 c1, .bool t1, .slice B1 m1 d1] := by
    have := (Bk.new (w.alloc (.cells #[.bool s0, .slice A0 n0 c0, .bool t0, .slice B0 m0 d0] 29)) 29 #[.bool s1, .slice A1 n1 c1, .bool t1, .slice B1 m1 d1])
    rw [hwa1]; simpa using this
  rw [← hwa1]
  clear hwa1
  refine (validRQ h0).mono ?_
  rintro e w2 ⟨rfl, hup⟩
  replace hk3 := hk3.up hup
  replace h1 := h1.up hup
  replace hupw := hupw.trans hup
  clear hup
  have hk3c0 := hk3.cell (i := 0) rfl
  have hk3c1 := hk3.cell (i := 1) rfl
  have hk3c2 := hk3.cell (i := 2) rfl
  have hk3c3 := hk3.cell (i := 3) rfl
  have hk3l := hk3.lt
  go_wp2_with fail
  clear hk3c0 hk3c1 hk3c2 hk3c3 hk3l
  refine (validNQ h1).mono ?_
  rintro e w3 ⟨rfl, hup⟩
  replace hupw := hupw.trans hup
  clear hup
  go_wp2_with fail
  go_ret
  exact ⟨rfl, hupw⟩
theorem bothN {w : World} {v v' : Value} (h : N2 w v v') : Calls Tryz.prog 58 #[v, v'] w (PB w false) := by
  obtain ⟨h1, h2, h3⟩ := h
  rcases h1 with h1 | ⟨a, h1⟩
  · exact both_1 v v' w h1 h2
  · rcases h3 with h3 | h3
    · exact both_1 v v' w h3 h2
    · exact both_2 v v' w h1 h3
theorem bothQ {w : World} {v v' : Value} {a b : Rat} (h : Rz w v a) (h' : Rz w v' b) : Calls Tryz.prog 58 #[v, v'] w (PB w true) := both_y v v' w h h'
set_option maxRecDepth 100000 in
set_option maxHeartbeats 4000000 in
theorem addN2 (v0 v1 : Value) (w : World)  (hN : N2 w v0 v1) :
    Calls Tryz.prog 24 #[v0, v1] w (PFE w 0 0 1) := by
  obtain ⟨s0, A0, n0, c0, t0, B0, m0, d0, rfl⟩ := hN.1.agg4
  obtain ⟨s1, A1, n1, c1, t1, B1, m1, d1, rfl⟩ := hN.2.1.agg4
  have hupw : Up w w := Up.refl w
  go_enter Tryz.func24, Tryz.ntmps24
  go_wp2_with fail
  obtain ⟨wa1, hwa1⟩ : ∃ x, x = (((w.alloc (.cells #[.bool s0, .slice A0 n0 c0, .bool t0, .slice B0 m0 d0] 29)).alloc (.cells #[.bool s1, .slice A1 n1 c1, .bool t1, .slice B1 m1 d1] 29)).alloc (.cells #[.bool false, .slice none 0 0, .bool false, .slice none 0 0] 29)) := ⟨_, rfl⟩
  have hup : Up w wa1 := by rw [hwa1]; exact ((((Up.refl w).alloc _).alloc _).alloc _)
  have hzwa1 : w.heap.size ≤ w.heap.size := hupw.size
  replace hN := hN.up hup
  replace hupw := hupw.trans hup
  clear hup
  have hk2 : Bk wa1 (w.heap.size) 29 #[.bool s0, .slice A0 n0 c0, .bool t0, .slice B0 m0 d0] := by
    have := (((Bk.new w 29 #[.bool s0, .slice A0 n0 c0, .bool t0, .slice B0 m0 d0]).alloc (.cells #[.bool s1, .slice A1 n1 c1, .bool t1, .slice B1 m1 d1] 29)).alloc (.cells #[.bool false, .slice none 0 0, .bool false, .slice none 0 0] 29))
    rw [hwa1]; simpa using this
  have hk3 : Bk wa1 (w.heap.size + 1) 29 #[.bool s1, .slice A1 n1 c1, .bool t1, .slice B1 m1 d1] := by
    have := ((Bk.new (w.alloc (.cells #[.bool s0, .slice A0 n0 c0, .bool t0, .slice B0 m0 d0] 29)) 29 #[.bool s1, .slice A1 n1 c1, .bool t1, .slice B1 m1 d1]).alloc (.cells #[.bool false, .slice none 0 0, .bool false, .slice none 0 0] 29))
    rw [hwa1]; simpa using this
  have hk4 : Bk wa1 (w.heap.size + 1 + 1) 29 #[.bool false, .slice none 0 0, .bool false, .slice none 0 0] := by
    have := (Bk.new ((w.alloc (.cells #[.bool s0, .slice A0 n0 c0, .bool t0, .slice B0 m0 d0] 29)).alloc (.cells #[.bool s1, .slice A1 n1 c1, .bool t1, .slice B1 m1 d1] 29)) 29 #[.bool false, .slice none 0 0, .bool false, .slice none 0 0])
    rw [hwa1]; simpa using this
  rw [← hwa1]
  clear hwa1
  refine (bothN hN).mono ?_
  rintro e w2 ⟨rfl, hup⟩
  replace hk4 := hk4.up hup
  replace hupw := hupw.trans hup
  clear hup
  have hk4c0 := hk4.cell (i := 0) rfl
  have hk4c1 := hk4.cell (i := 1) rfl
  have hk4c2 := hk4.cell (i := 2) rfl
  have hk4c3 := hk4.cell (i := 3) rfl
  have hk4l := hk4.lt
  have hk4f0 := hk4.frozen 0
  have hk4f1 := hk4.frozen 1
  have hk4f2 := hk4.frozen 2
  have hk4f3 := hk4.frozen 3
  go_wp2_with fail
  clear hk4c0 hk4c1 hk4c2 hk4c3 hk4l hk4f0 hk4f1 hk4f2 hk4f3
  obtain ⟨ws3, hws3⟩ : ∃ x, x = (st4 w2 (w.heap.size + 1 + 1) (.bool false) (.slice none 0 0) (.bool false) (.slice none 0 0)) := ⟨_, rfl⟩
  clear hN
  replace hupw := hupw.st4 (g := (w.heap.size + 1 + 1)) (by omega) (.bool false) (.slice none 0 0) (.bool false) (.slice none 0 0)
  rw [← hws3] at hupw
  replace hk4 := hk4.four (.bool false) (.slice none 0 0) (.bool false) (.slice none 0 0)
  rw [← hws3] at hk4
  have hszws3 : ws3.heap.size = w2.heap.size := by rw [hws3]; simp [st4]
  unfold st4 at hws3
  rw [← hws3]
  clear hws3
  clear hszws3
  have hk4c0 := hk4.cell (i := 0) rfl
  have hk4c1 := hk4.cell (i := 1) rfl
  have hk4c2 := hk4.cell (i := 2) rfl
  have hk4c3 := hk4.cell (i := 3) rfl
  exact bodyPost_ret (v := .tuple #[.agg #[.bool false, .slice none 0 0, .bool false, .slice none 0 0], .int .i64 1]) (by simp [results, Tryz.results24, go_sem, hk4c0, hk4c1, hk4c2, hk4c3]) rfl ⟨_, rfl, Fz.mk (Iz.zero _) (Iz.zero _), hupw⟩
set_option maxRecDepth 100000 in
set_option maxHeartbeats 4000000 in
theorem addRQ {a b : Rat} (v0 v1 : Value) (w : World) (f0 : Fz w v0 (nm a) (dn a)) (f1 : Fz w v1 (nm b) (dn b)) :
    Calls Tryz.prog 24 #[v0, v1] w (PR w (addR a b)) := by
  obtain ⟨s0, A0, n0, c0, t0, B0, m0, d0, rfl, h0, k0⟩ := f0
  obtain ⟨s1, A1, n1, c1, t1, B1, m1, d1, rfl, h1, k1⟩ := f1
  have hupw : Up w w := Up.refl w
  go_enter Tryz.func24, Tryz.ntmps24
  go_wp2_with fail
  obtain ⟨wa1, hwa1⟩ : ∃ x, x = (((w.alloc (.cells #[.bool s0, .slice A0 n0 c0, .bool t0, .slice B0 m0 d0] 29)).alloc (.cells #[.bool s1, .slice A1 n1 c1, .bool t1, .slice B1 m1 d1] 29)).alloc (.cells #[.bool false, .slice none 0 0, .bool false, .slice none 0 0] 29)) := ⟨_, rfl⟩
  have hup : Up w wa1 := by rw [hwa1]; exact ((((Up.refl w).alloc _).alloc _).alloc _)
  have hzwa1 : w.heap.size ≤ w.heap.size := hupw.size
  replace h0 := h0.up hup
  replace k0 := k0.up hup
  replace h1 := h1.up hup
  replace k1 := k1.up hup
  replace hupw := hupw.trans hup
  clear hup
  have hk2 : Bk wa1 (w.heap.size) 29 #[.bool s0, .slice A0 n0 c0, .bool t0, .slice B0 m0 d0] := by
    have := (((Bk.new w 29 #[.bool s0, .slice A0 n0 c0, .bool t0, .slice B0 m0 d0]).alloc (.cells #[.bool s1, .slice A1 n1 c1, .bool t1, .slice B1 m1 d1] 29)).alloc (.cells #[.bool false, .slice none 0 0, .bool false, .slice none 0 0] 29))
    rw [hwa1]; simpa using this
  have hk3 : Bk wa1 (w.heap.size + 1) 29 #[.bool s1, .slice A1 n1 c1, .bool t1, .slice B1 m1 d1] := by
    have := ((Bk.new (w.alloc (.cells #[.bool s0, .slice A0 n0 c0, .bool t0, .slice B0 m0 d0] 29)) 29 #[.bool s1, .slice A1 n1 c1, .bool t1, .slice B1 m1 d1]).alloc (.cells #[.bool false, .slice none 0 0, .bool false, .slice none 0 0] 29))
    rw [hwa1]; simpa using this
  have hk4 : Bk wa1 (w.heap.size + 1 + 1) 29 #[.bool false, .slice none 0 0, .bool false, .slice none 0 0] := by
    have := (Bk.new ((w.alloc (.cells #[.bool s0, .slice A0 n0 c0, .bool t0, .slice B0 m0 d0] 29)).alloc (.cells #[.bool s1, .slice A1 n1 c1, .bool t1, .slice B1 m1 d1] 29)) 29 #[.bool false, .slice none 0 0, .bool false, .slice none 0 0])
    rw [hwa1]; simpa using this
  rw [← hwa1]
  clear hwa1
  refine (bothQ (Fz.mk h0 k0) (Fz.mk h1 k1)).mono ?_
  rintro e w2 ⟨rfl, hup⟩
  replace hk2 := hk2.up hup
  replace hk3 := hk3.up hup
  replace hk4 := hk4.up hup
  replace h0 := h0.up hup
  replace k0 := k0.up hup
  replace h1 := h1.up hup
  replace k1 := k1.up hup
  replace hupw := hupw.trans hup
  clear hup
  have hk2c0 := hk2.cell (i := 0) rfl
  have hk2c1 := hk2.cell (i := 1) rfl
  have hk2c2 := hk2.cell (i := 2) rfl
  have hk2c3 := hk2.cell (i := 3) rfl
  have hk2l := hk2.lt
  have hk3c0 := hk3.cell (i := 0) rfl
  have hk3c1 := hk3.cell (i := 1) rfl
  have hk3c2 := hk3.cell (i := 2) rfl
  have hk3c3 := hk3.cell (i := 3) rfl
  have hk3l := hk3.lt
  go_wp2_with fail
  clear hk2c0 hk2c1 hk2c2 hk2c3 hk2l hk3c0 hk3c1 hk3c2 hk3c3 hk3l
  refine (sum_q _ _ _ (Fz.mk h0 k0) (Fz.mk h1 k1)).mono ?_
  rintro e w3 ⟨vf, rfl, hf, hup⟩
  replace hk4 := hk4.up hup
  replace hupw := hupw.trans hup
  clear hup
  obtain ⟨s_4, A_4, n_4, c_4, s_5, A_5, n_5, c_5, rfl, h_4, h_5⟩ := hf
  have hk4c0 := hk4.cell (i := 0) rfl
  have hk4c1 := hk4.cell (i := 1) rfl
  have hk4c2 := hk4.cell (i := 2) rfl
  have hk4c3 := hk4.cell (i := 3) rfl
  have hk4l := hk4.lt
  have hk4f0 := hk4.frozen 0
  have hk4f1 := hk4.frozen 1
  have hk4f2 := hk4.frozen 2
  have hk4f3 := hk4.frozen 3
  go_wp2_with fail
  clear hk4c0 hk4c1 hk4c2 hk4c3 hk4l hk4f0 hk4f1 hk4f2 hk4f3
  obtain ⟨ws6, hws6⟩ : ∃ x, x = (st4 w3 (w.heap.size + 1 + 1) (.bool s_4) (.slice A_4 n_4 c_4) (.bool s_5) (.slice A_5 n_5 c_5)) := ⟨_, rfl⟩
  have h_4' := h_4.st4 hk4 (noU4 _ _ _ _ _ _ _ _) (.bool s_4) (.slice A_4 n_4 c_4) (.bool s_5) (.slice A_5 n_5 c_5)
  have h_5' := h_5.st4 hk4 (noU4 _ _ _ _ _ _ _ _) (.bool s_4) (.slice A_4 n_4 c_4) (.bool s_5) (.slice A_5 n_5 c_5)
  rw [← hws6] at h_4'
  clear h_4
  have h_4 := h_4'
  clear h_4'
  rw [← hws6] at h_5'
  clear h_5
  have h_5 := h_5'
  clear h_5'
  replace hupw := hupw.st4 (g := (w.heap.size + 1 + 1)) (by omega) (.bool s_4) (.slice A_4 n_4 c_4) (.bool s_5) (.slice A_5 n_5 c_5)
  rw [← hws6] at hupw
  replace hk4 := hk4.four (.bool s_4) (.slice A_4 n_4 c_4) (.bool s_5) (.slice A_5 n_5 c_5)
  rw [← hws6] at hk4
  have hszws6 : ws6.heap.size = w3.heap.size := by rw [hws6]; simp [st4]
  unfold st4 at hws6
  rw [← hws6]
  clear hws6
  clear hszws6
  have hk4c0 := hk4.cell (i := 0) rfl
  have hk4c1 := hk4.cell (i := 1) rfl
  have hk4c2 := hk4.cell (i := 2) rfl
  have hk4c3 := hk4.cell (i := 3) rfl
  exact bodyPost_ret (v := .tuple #[.agg #[.bool s_4, .slice A_4 n_4 c_4, .bool s_5, .slice A_5 n_5 c_5], .int .i64 (addR a b).e]) (by simp [results, Tryz.results24, go_sem, hk4c0, hk4c1, hk4c2, hk4c3]) rfl ⟨_, rfl, Fz.mk h_4 h_5, hupw⟩
set_option maxRecDepth 100000 in
set_option maxHeartbeats 4000000 in
theorem subN2 (v0 v1 : Value) (w : World)  (hN : N2 w v0 v1) :
    Calls Tryz.prog 25 #[v0, v1] w (PFE w 0 0 1) := by
  obtain ⟨s0, A0, n0, c0, t0, B0, m0, d0, rfl⟩ := hN.1.agg4
  obtain ⟨s1, A1, n1, c1, t1, B1, m1, d1, rfl⟩ := hN.2.1.agg4
  have hupw : Up w w := Up.refl w
  go_enter Tryz.func25, Tryz.ntmps25
  go_wp2_with fail
  obtain ⟨wa1, hwa1⟩ : ∃ x, x = (((w.alloc (.cells #[.bool s0, .slice A0 n0 c0, .bool t0, .slice B0 m0 d0] 29)).alloc (.cells #[.bool s1, .slice A1 n1 c1, .bool t1, .slice B1 m1 d1] 29)).alloc (.cells #[.bool false, .slice none 0 0, .bool false, .slice none 0 0] 29)) := ⟨_, rfl⟩
  have hup : Up w wa1 := by rw [hwa1]; exact ((((Up.refl w).alloc _).alloc _).alloc _)
  have hzwa1 : w.heap.size ≤ w.heap.size := hupw.size
  replace hN := hN.up hup
  replace hupw := hupw.trans hup
  clear hup
  have hk2 : Bk wa1 (w.heap.size) 29 #[.bool s0, .slice A0 n0 c0, .bool t0, .slice B0 m0 d0] := by
    have := (((Bk.new w 29 #[.bool s0, .slice A0 n0 c0, .bool t0, .slice B0 m0 d0]).alloc (.cells #[.bool s1, .slice A1 n1 c1, .bool t1, .slice B1 m1 d1] 29)).alloc (.cells #[.bool false, .slice none 0 0, .bool false, .slice none 0 0] 29))
    rw [hwa1]; simpa using this
  have hk3 : Bk wa1 (w.heap.size + 1) 29 #[.bool s1, .slice A1 n1 c1, .bool t1, .slice B1 m1 d1] := by
    have := ((Bk.new (w.alloc (.cells #[.bool s0, .slice A0 n0 c0, .bool t0, .slice B0 m0 d0] 29)) 29 #[.bool s1, .slice A1 n1 c1, .bool t1, .slice B1 m1 d1]).alloc (.cells #[.bool false, .slice none 0 0, .bool false, .slice none 0 0] 29))
    rw [hwa1]; simpa using this
  have hk4 : Bk wa1 (w.heap.size + 1 + 1) 29 #[.bool false, .slice none 0 0, .bool false, .slice none 0 0] := by
    have := (Bk.new ((w.alloc (.cells #[.bool s0, .slice A0 n0 c0, .bool t0, .slice B0 m0 d0] 29)).alloc (.cells #[.bool s1, .slice A1 n1 c1, .bool t1, .slice B1 m1 d1] 29)) 29 #[.bool false, .slice none 0 0, .bool false, .slice none 0 0])
    rw [hwa1]; simpa using this
  rw [← hwa1]
  clear hwa1
  refine (bothN hN).mono ?_
  rintro e w2 ⟨rfl, hup⟩
  replace hk4 := hk4.up hup
  replace hupw := hupw.trans hup
  clear hup
  have hk4c0 := hk4.cell (i := 0) rfl
  have hk4c1 := hk4.cell (i := 1) rfl
  have hk4c2 := hk4.cell (i := 2) rfl
  have hk4c3 := hk4.cell (i := 3) rfl
  have hk4l := hk4.lt
  have hk4f0 := hk4.frozen 0
  have hk4f1 := hk4.frozen 1
  have hk4f2 := hk4.frozen 2
  have hk4f3 := hk4.frozen 3
  go_wp2_with fail
  clear hk4c0 hk4c1 hk4c2 hk4c3 hk4l hk4f0 hk4f1 hk4f2 hk4f3
  obtain ⟨ws3, hws3⟩ : ∃ x, x = (st4 w2 (w.heap.size + 1 + 1) (.bool false) (.slice none 0 0) (.bool false) (.slice none 0 0)) := ⟨_, rfl⟩
  clear hN
  replace hupw := hupw.st4 (g := (w.heap.size + 1 + 1)) (by omega) (.bool false) (.slice none 0 0) (.bool false) (.slice none 0 0)
  rw [← hws3] at hupw
  replace hk4 := hk4.four (.bool false) (.slice none 0 0) (.bool false) (.slice none 0 0)
  rw [← hws3] at hk4
  have hszws3 : ws3.heap.size = w2.heap.size := by rw [hws3]; simp [st4]
  unfold st4 at hws3
  rw [← hws3]
  clear hws3
  clear hszws3
  have hk4c0 := hk4.cell (i := 0) rfl
  have hk4c1 := hk4.cell (i := 1) rfl
  have hk4c2 := hk4.cell (i := 2) rfl
  have hk4c3 := hk4.cell (i := 3) rfl
  exact bodyPost_ret (v := .tuple #[.agg #[.bool false, .slice none 0 0, .bool false, .slice none 0 0], .int .i64 1]) (by simp [results, Tryz.results25, go_sem, hk4c0, hk4c1, hk4c2, hk4c3]) rfl ⟨_, rfl, Fz.mk (Iz.zero _) (Iz.zero _), hupw⟩
set_option maxRecDepth 100000 in
set_option maxHeartbeats 4000000 in
theorem subRQ {a b : Rat} (v0 v1 : Value) (w : World) (f0 : Fz w v0 (nm a) (dn a)) (f1 : Fz w v1 (nm b) (dn b)) :
    Calls Tryz.prog 25 #[v0, v1] w (PR w (subR a b)) := by
  obtain ⟨s0, A0, n0, c0, t0, B0, m0, d0, rfl, h0, k0⟩ := f0
  obtain ⟨s1, A1, n1, c1, t1, B1, m1, d1, rfl, h1, k1⟩ := f1
  have hupw : Up w w := Up.refl w
  go_enter Tryz.func25, Tryz.ntmps25
  go_wp2_with fail
  obtain ⟨wa1, hwa1⟩ : ∃ x, x = (((w.alloc (.cells #[.bool s0, .slice A0 n0 c0, .bool t0, .slice B0 m0 d0] 29)).alloc (.cells #[.bool s1, .slice A1 n1 c1, .bool t1, .slice B1 m1 d1] 29)).alloc (.cells #[.bool false, .slice none 0 0, .bool false, .slice none 0 0] 29)) := ⟨_, rfl⟩
  have hup : Up w wa1 := by rw [hwa1]; exact ((((Up.refl w).alloc _).alloc _).alloc _)
  have hzwa1 : w.heap.size ≤ w.heap.size := hupw.size
  replace h0 := h0.up hup
  replace k0 := k0.up hup
  replace h1 := h1.up hup
  replace k1 := k1.up hup
  replace hupw := hupw.trans hup
  clear hup
  have hk2 : Bk wa1 (w.heap.size) 29 #[.bool s0, .slice A0 n0 c0, .bool t0, .slice B0 m0 d0] := by
    have := (((Bk.new w 29 #[.bool s0, .slice A0 n0 c0, .bool t0, .slice B0 m0 d0]).alloc (.cells #[.bool s1, .slice A1 n1 c1, .bool t1, .slice B1 m1 d1] 29)).alloc (.cells #[.bool false, .slice none 0 0, .bool false, .slice none 0 0] 29))
    rw [hwa1]; simpa using this
  have hk3 : Bk wa1 (w.heap.size + 1) 29 #[.bool s1, .slice A1 n1 c1, .bool t1, .slice B1 m1 d1] := by
    have := ((Bk.new (w.alloc (.cells #[.bool s0, .slice A0 n0 c0, .bool t0, .slice B0 m0 d0] 29)) 29 #[.bool s1, .slice A1 n1 c1, .bool t1, .slice B1 m1 d1]).alloc (.cells #[.bool false, .slice none 0 0, .bool false, .slice none 0 0] 29))
    rw [hwa1]; simpa using this
  have hk4 : Bk wa1 (w.heap.size + 1 + 1) 29 #[.bool false, .slice none 0 0, .bool false, .slice none 0 0] := by
    have := (Bk.new ((w.alloc (.cells #[.bool s0, .slice A0 n0 c0, .bool t0, .slice B0 m0 d0] 29)).alloc (.cells #[.bool s1, .slice A1 n1 c1, .bool t1, .slice B1 m1 d1] 29)) 29 #[.bool false, .slice none 0 0, .bool false, .slice none 0 0])
    rw [hwa1]; simpa using this
  rw [← hwa1]
  clear hwa1
  refine (bothQ (Fz.mk h0 k0) (Fz.mk h1 k1)).mono ?_
  rintro e w2 ⟨rfl, hup⟩
  replace hk2 := hk2.up hup
  replace hk3 := hk3.up hup
  replace hk4 := hk4.up hup
  replace h0 := h0.up hup
  replace k0 := k0.up hup
  replace h1 := h1.up hup
  replace k1 := k1.up hup
  replace hupw := hupw.trans hup
  clear hup
  have hk2c0 := hk2.cell (i := 0) rfl
  have hk2c1 := hk2.cell (i := 1) rfl
  have hk2c2 := hk2.cell (i := 2) rfl
  have hk2c3 := hk2.cell (i := 3) rfl
  have hk2l := hk2.lt
  have hk3c0 := hk3.cell (i := 0) rfl
  have hk3c1 := hk3.cell (i := 1) rfl
  have hk3c2 := hk3.cell (i := 2) rfl
  have hk3c3 := hk3.cell (i := 3) rfl
  have hk3l := hk3.lt
  go_wp2_with fail
  clear hk2c0 hk2c1 hk2c2 hk2c3 hk2l hk3c0 hk3c1 hk3c2 hk3c3 hk3l
  refine (comSubQ (Fz.mk h0 k0) (Fz.mk h1 k1)).mono ?_
  rintro e w3 ⟨vf, rfl, hf, hup⟩
  replace hk4 := hk4.up hup
  replace hupw := hupw.trans hup
  clear hup
  obtain ⟨s_4, A_4, n_4, c_4, s_5, A_5, n_5, c_5, rfl, h_4, h_5⟩ := hf
  have hk4c0 := hk4.cell (i := 0) rfl
  have hk4c1 := hk4.cell (i := 1) rfl
  have hk4c2 := hk4.cell (i := 2) rfl
  have hk4c3 := hk4.cell (i := 3) rfl
  have hk4l := hk4.lt
  have hk4f0 := hk4.frozen 0
  have hk4f1 := hk4.frozen 1
  have hk4f2 := hk4.frozen 2
  have hk4f3 := hk4.frozen 3
  go_wp2_with fail
  clear hk4c0 hk4c1 hk4c2 hk4c3 hk4l hk4f0 hk4f1 hk4f2 hk4f3
  obtain ⟨ws6, hws6⟩ : ∃ x, x = (st4 w3 (w.heap.size + 1 + 1) (.bool s_4) (.slice A_4 n_4 c_4) (.bool s_5) (.slice A_5 n_5 c_5)) := ⟨_, rfl⟩
  have h_4' := h_4.st4 hk4 (noU4 _ _ _ _ _ _ _ _) (.bool s_4) (.slice A_4 n_4 c_4) (.bool s_5) (.slice A_5 n_5 c_5)
  have h_5' := h_5.st4 hk4 (noU4 _ _ _ _ _ _ _ _) (.bool s_4) (.slice A_4 n_4 c_4) (.bool s_5) (.slice A_5 n_5 c_5)
  rw [← hws6] at h_4'
  clear h_4
  have h_4 := h_4'
  clear h_4'
  rw [← hws6] at h_5'
  clear h_5
  have h_5 := h_5'
  clear h_5'
  replace hupw := hupw.st4 (g := (w.heap.size + 1 + 1)) (by omega) (.bool s_4) (.slice A_4 n_4 c_4) (.bool s_5) (.slice A_5 n_5 c_5)
  rw [← hws6] at hupw
  replace hk4 := hk4.four (.bool s_4) (.slice A_4 n_4 c_4) (.bool s_5) (.slice A_5 n_5 c_5)
  rw [← hws6] at hk4
  have hszws6 : ws6.heap.size = w3.heap.size := by rw [hws6]; simp [st4]
  unfold st4 at hws6
  rw [← hws6]
  clear hws6
  clear hszws6
  have hk4c0 := hk4.cell (i := 0) rfl
  have hk4c1 := hk4.cell (i := 1) rfl
  have hk4c2 := hk4.cell (i := 2) rfl
  have hk4c3 := hk4.cell (i := 3) rfl
  exact bodyPost_ret (v := .tuple #[.agg #[.bool s_4, .slice A_4 n_4 c_4, .bool s_5, .slice A_5 n_5 c_5], .int .i64 (comR a b (nm a * dn b - nm b * dn a)).e]) (by simp [results, Tryz.results25, go_sem, hk4c0, hk4c1, hk4c2, hk4c3]) rfl ⟨_, rfl, Fz.mk h_4 h_5, hupw⟩
set_option maxRecDepth 100000 in
set_option maxHeartbeats 4000000 in
theorem mulN2 (v0 v1 : Value) (w : World)  (hN : N2 w v0 v1) :
    Calls Tryz.prog 26 #[v0, v1] w (PFE w 0 0 1) := by
  obtain ⟨s0, A0, n0, c0, t0, B0, m0, d0, rfl⟩ := hN.1.agg4
  obtain ⟨s1, A1, n1, c1, t1, B1, m1, d1, rfl⟩ := hN.2.1.agg4
  have hupw : Up w w := Up.refl w
  go_enter Tryz.func26, Tryz.ntmps26
  go_wp2_with fail
  obtain ⟨wa1, hwa1⟩ : ∃ x, x = (((w.alloc (.cells #[.bool s0, .slice A0 n0 c0, .bool t0, .slice B0 m0 d0] 29)).alloc (.cells #[.bool s1, .slice A1 n1 c1, .bool t1, .slice B1 m1 d1] 29)).alloc (.cells #[.bool false, .slice none 0 0, .bool false, .slice none 0 0] 29)) := ⟨_, rfl⟩
  have hup : Up w wa1 := by rw [hwa1]; exact ((((Up.refl w).alloc _).alloc _).alloc _)
  have hzwa1 : w.heap.size ≤ w.heap.size := hupw.size
  replace hN := hN.up hup
  replace hupw := hupw.trans hup
  clear hup
  have hk2 : Bk wa1 (w.heap.size) 29 #[.bool s0, .slice A0 n0 c0, .bool t0, .slice B0 m0 d0] := by
    have := (((Bk.new w 29 #[.bool s0, .slice A0 n0 c0, .bool t0, .slice B0 m0 d0]).alloc (.cells #[.bool s1, .slice A1 n1 c1, .bool t1, .slice B1 m1 d1] 29)).alloc (.cells #[.bool false, .slice none 0 0, .bool false, .slice none 0 0] 29))
    rw [hwa1]; simpa using this
  have hk3 : Bk wa1 (w.heap.size + 1) 29 #[.bool s1, .slice A1 n1 c1, .bool t1, .slice B1 m1 d1] := by
    have := ((Bk.new (w.alloc (.cells #[.bool s0, .slice A0 n0 c0, .bool t0, .slice B0 m0 d0] 29)) 29 #[.bool s1, .slice A1 n1 c1, .bool t1, .slice B1 m1 d1]).alloc (.cells #[.bool false, .slice none 0 0, .bool false, .slice none 0 0] 29))
    rw [hwa1]; simpa using this
  have hk4 : Bk wa1 (w.heap.size + 1 + 1) 29 #[.bool false, .slice none 0 0, .bool false, .slice none 0 0] := by
    have := (Bk.new ((w.alloc (.cells #[.bool s0, .slice A0 n0 c0, .bool t0, .slice B0 m0 d0] 29)).alloc (.cells #[.bool s1, .slice A1 n1 c1, .bool t1, .slice B1 m1 d1] 29)) 29 #[.bool false, .slice none 0 0, .bool false, .slice none 0 0])
    rw [hwa1]; simpa using this
  rw [← hwa1]
  clear hwa1
  refine (bothN hN).mono ?_
  rintro e w2 ⟨rfl, hup⟩
  replace hk4 := hk4.up hup
  replace hupw := hupw.trans hup
  clear hup
  have hk4c0 := hk4.cell (i := 0) rfl
  have hk4c1 := hk4.cell (i := 1) rfl
  have hk4c2 := hk4.cell (i := 2) rfl
  have hk4c3 := hk4.cell (i := 3) rfl
  have hk4l := hk4.lt
  have hk4f0 := hk4.frozen 0
  have hk4f1 := hk4.frozen 1
  have hk4f2 := hk4.frozen 2
  have hk4f3 := hk4.frozen 3
  go_wp2_with fail
  clear hk4c0 hk4c1 hk4c2 hk4c3 hk4l hk4f0 hk4f1 hk4f2 hk4f3
  obtain ⟨ws3, hws3⟩ : ∃ x, x = (st4 w2 (w.heap.size + 1 + 1) (.bool false) (.slice none 0 0) (.bool false) (.slice none 0 0)) := ⟨_, rfl⟩
  clear hN
  replace hupw := hupw.st4 (g := (w.heap.size + 1 + 1)) (by omega) (.bool false) (.slice none 0 0) (.bool false) (.slice none 0 0)
  rw [← hws3] at hupw
  replace hk4 := hk4.four (.bool false) (.slice none 0 0) (.bool false) (.slice none 0 0)
  rw [← hws3] at hk4
  have hszws3 : ws3.heap.size = w2.heap.size := by rw [hws3]; simp [st4]
  unfold st4 at hws3
  rw [← hws3]
  clear hws3
  clear hszws3
  have hk4c0 := hk4.cell (i := 0) rfl
  have hk4c1 := hk4.cell (i := 1) rfl
  have hk4c2 := hk4.cell (i := 2) rfl
  have hk4c3 := hk4.cell (i := 3) rfl
  exact bodyPost_ret (v := .tuple #[.agg #[.bool false, .slice none 0 0, .bool false, .slice none 0 0], .int .i64 1]) (by simp [results, Tryz.results26, go_sem, hk4c0, hk4c1, hk4c2, hk4c3]) rfl ⟨_, rfl, Fz.mk (Iz.zero _) (Iz.zero _), hupw⟩
set_option maxRecDepth 100000 in
set_option maxHeartbeats 4000000 in
theorem mulRQ {a b : Rat} (v0 v1 : Value) (w : World) (f0 : Fz w v0 (nm a) (dn a)) (f1 : Fz w v1 (nm b) (dn b)) :
    Calls Tryz.prog 26 #[v0, v1] w (PR w (mulR a b)) := by
  obtain ⟨s0, A0, n0, c0, t0, B0, m0, d0, rfl, h0, k0⟩ := f0
  obtain ⟨s1, A1, n1, c1, t1, B1, m1, d1, rfl, h1, k1⟩ := f1
  have hupw : Up w w := Up.refl w
  go_enter Tryz.func26, Tryz.ntmps26
  go_wp2_with fail
  obtain ⟨wa1, hwa1⟩ : ∃ x, x = (((w.alloc (.cells #[.bool s0, .slice A0 n0 c0, .bool t0, .slice B0 m0 d0] 29)).alloc (.cells #[.bool s1, .slice A1 n1 c1, .bool t1, .slice B1 m1 d1] 29)).alloc (.cells #[.bool false, .slice none 0 0, .bool false, .slice none 0 0] 29)) := ⟨_, rfl⟩
  have hup : Up w wa1 := by rw [hwa1]; exact ((((Up.refl w).alloc _).alloc _).alloc _)
  have hzwa1 : w.heap.size ≤ w.heap.size := hupw.size
  replace h0 := h0.up hup
  replace k0 := k0.up hup
  replace h1 := h1.up hup
  replace k1 := k1.up hup
  replace hupw := hupw.trans hup
  clear hup
  have hk2 : Bk wa1 (w.heap.size) 29 #[.bool s0, .slice A0 n0 c0, .bool t0, .slice B0 m0 d0] := by
    have := (((Bk.new w 29 #[.bool s0, .slice A0 n0 c0, .bool t0, .slice B0 m0 d0]).alloc (.cells #[.bool s1, .slice A1 n1 c1, .bool t1, .slice B1 m1 d1] 29)).alloc (.cells #[.bool false, .slice none 0 0, .bool false, .slice none 0 0] 29))
    rw [hwa1]; simpa using this
  have hk3 : Bk wa1 (w.heap.size + 1) 29 #[.bool s1, .slice A1 n1 c1, .bool t1, .slice B1 m1 d1] := by
    have := ((Bk.new (w.alloc (.cells #[.bool s0, .slice A0 n0 c0, .bool t0, .slice B0 m0 d0] 29)) 29 #[.bool s1, .slice A1 n1 c1, .bool t1, .slice B1 m1 d1]).alloc (.cells #[.bool false, .slice none 0 0, .bool false, .slice none 0 0] 29))
    rw [hwa1]; simpa using this
  have hk4 : Bk wa1 (w.heap.size + 1 + 1) 29 #[.bool false, .slice none 0 0, .bool false, .slice none 0 0] := by
    have := (Bk.new ((w.alloc (.cells #[.bool s0, .slice A0 n0 c0, .bool t0, .slice B0 m0 d0] 29)).alloc (.cells #[.bool s1, .slice A1 n1 c1, .bool t1, .slice B1 m1 d1] 29)) 29 #[.bool false, .slice none 0 0, .bool false, .slice none 0 0])
    rw [hwa1]; simpa using this
  rw [← hwa1]
  clear hwa1
  refine (bothQ (Fz.mk h0 k0) (Fz.mk h1 k1)).mono ?_
  rintro e w2 ⟨rfl, hup⟩
  replace hk2 := hk2.up hup
  replace hk3 := hk3.up hup
  replace hk4 := hk4.up hup
  replace h0 := h0.up hup
  replace k0 := k0.up hup
  replace h1 := h1.up hup
  replace k1 := k1.up hup
  replace hupw := hupw.trans hup
  clear hup
  have hk2c0 := hk2.cell (i := 0) rfl
  have hk2c1 := hk2.cell (i := 1) rfl
  have hk2c2 := hk2.cell (i := 2) rfl
  have hk2c3 := hk2.cell (i := 3) rfl
  have hk2l := hk2.lt
  have hk3c0 := hk3.cell (i := 0) rfl
  have hk3c1 := hk3.cell (i := 1) rfl
  have hk3c2 := hk3.cell (i := 2) rfl
  have hk3c3 := hk3.cell (i := 3) rfl
  have hk3l := hk3.lt
  go_wp2_with fail
  clear hk2c0 hk2c1 hk2c2 hk2c3 hk2l hk3c0 hk3c1 hk3c2 hk3c3 hk3l
  refine (product_q _ _ _ (Fz.mk h0 k0) (Fz.mk h1 k1)).mono ?_
  rintro e w3 ⟨vf, rfl, hf, hup⟩
  replace hk4 := hk4.up hup
  replace hupw := hupw.trans hup
  clear hup
  obtain ⟨s_4, A_4, n_4, c_4, s_5, A_5, n_5, c_5, rfl, h_4, h_5⟩ := hf
  have hk4c0 := hk4.cell (i := 0) rfl
  have hk4c1 := hk4.cell (i := 1) rfl
  have hk4c2 := hk4.cell (i := 2) rfl
  have hk4c3 := hk4.cell (i := 3) rfl
  have hk4l := hk4.lt
  have hk4f0 := hk4.frozen 0
  have hk4f1 := hk4.frozen 1
  have hk4f2 := hk4.frozen 2
  have hk4f3 := hk4.frozen 3
  go_wp2_with fail
  clear hk4c0 hk4c1 hk4c2 hk4c3 hk4l hk4f0 hk4f1 hk4f2 hk4f3
  obtain ⟨ws6, hws6⟩ : ∃ x, x = (st4 w3 (w.heap.size + 1 + 1) (.bool s_4) (.slice A_4 n_4 c_4) (.bool s_5) (.slice A_5 n_5 c_5)) := ⟨_, rfl⟩
  have h_4' := h_4.st4 hk4 (noU4 _ _ _ _ _ _ _ _) (.bool s_4) (.slice A_4 n_4 c_4) (.bool s_5) (.slice A_5 n_5 c_5)
  have h_5' := h_5.st4 hk4 (noU4 _ _ _ _ _ _ _ _) (.bool s_4) (.slice A_4 n_4 c_4) (.bool s_5) (.slice A_5 n_5 c_5)
  rw [← hws6] at h_4'
  clear h_4
  have h_4 := h_4'
  clear h_4'
  rw [← hws6] at h_5'
  clear h_5
  have h_5 := h_5'
  clear h_5'
  replace hupw := hupw.st4 (g := (w.heap.size + 1 + 1)) (by omega) (.bool s_4) (.slice A_4 n_4 c_4) (.bool s_5) (.slice A_5 n_5 c_5)
  rw [← hws6] at hupw
  replace hk4 := hk4.four (.bool s_4) (.slice A_4 n_4 c_4) (.bool s_5) (.slice A_5 n_5 c_5)
  rw [← hws6] at hk4
  have hszws6 : ws6.heap.size = w3.heap.size := by rw [hws6]; simp [st4]
  unfold st4 at hws6
  rw [← hws6]
  clear hws6
  clear hszws6
  have hk4c0 := hk4.cell (i := 0) rfl
  have hk4c1 := hk4.cell (i := 1) rfl
  have hk4c2 := hk4.cell (i := 2) rfl
  have hk4c3 := hk4.cell (i := 3) rfl
  exact bodyPost_ret (v := .tuple #[.agg #[.bool s_4, .slice A_4 n_4 c_4, .bool s_5, .slice A_5 n_5 c_5], .int .i64 (mulR a b).e]) (by simp [results, Tryz.results26, go_sem, hk4c0, hk4c1, hk4c2, hk4c3]) rfl ⟨_, rfl, Fz.mk h_4 h_5, hupw⟩
set_option maxRecDepth 100000 in
set_option maxHeartbeats 4000000 in
theorem divN2 (v0 v1 : Value) (w : World)  (hN : N2 w v0 v1) :
    Calls Tryz.prog 27 #[v0, v1] w (PFE w 0 0 1) := by
  obtain ⟨s0, A0, n0, c0, t0, B0, m0, d0, rfl⟩ := hN.1.agg4
  obtain ⟨s1, A1, n1, c1, t1, B1, m1, d1, rfl⟩ := hN.2.1.agg4
  have hupw : Up w w := Up.refl w
  go_enter Tryz.func27, Tryz.ntmps27
  go_wp2_with fail
  obtain ⟨wa1, hwa1⟩ : ∃ x, x = (((w.alloc (.cells #[.bool s0, .slice A0 n0 c0, .bool t0, .slice B0 m0 d0] 29)).alloc (.cells #[.bool s1, .slice A1 n1 c1, .bool t1, .slice B1 m1 d1] 29)).alloc (.cells #[.bool false, .slice none 0 0, .bool false, .slice none 0 0] 29)) := ⟨_, rfl⟩
  have hup : Up w wa1 := by rw [hwa1]; exact ((((Up.refl w).alloc _).alloc _).alloc _)
  have hzwa1 : w.heap.size ≤ w.heap.size := hupw.size
  replace hN := hN.up hup
  replace hupw := hupw.trans hup
  clear hup
  have hk2 : Bk wa1 (w.heap.size) 29 #[.bool s0, .slice A0 n0 c0, .bool t0, .slice B0 m0 d0] := by
    have := (((Bk.new w 29 #[.bool s0, .slice A0 n0 c0, .bool t0, .slice B0 m0 d0]).alloc (.cells #[.bool s1, .slice A1 n1 c1, .bool t1, .slice B1 m1 d1] 29)).alloc (.cells #[.bool false, .slice none 0 0, .bool false, .slice none 0 0] 29))
    rw [hwa1]; simpa using this
  have hk3 : Bk wa1 (w.heap.size + 1) 29 #[.bool s1, .slice A1 n1 c1, .bool t1, .slice B1 m1 d1] := by
    have := ((Bk.new (w.alloc (.cells #[.bool s0, .slice A0 n0 c0, .bool t0, .slice B0 m0 d0] 29)) 29 #[.bool s1, .slice A1 n1 c1, .bool t1, .slice B1 m1 d1]).alloc (.cells #[.bool false, .slice none 0 0, .bool false, .slice none 0 0] 29))
    rw [hwa1]; simpa using this
  have hk4 : Bk wa1 (w.heap.size + 1 + 1) 29 #[.bool false, .slice none 0 0, .bool false, .slice none 0 0] := by
    have := (Bk.new ((w.alloc (.cells #[.bool s0, .slice A0 n0 c0, .bool t0, .slice B0 m0 d0] 29)).alloc (.cells #[.bool s1, .slice A1 n1 c1, .bool t1, .slice B1 m1 d1] 29)) 29 #[.bool false, .slice none 0 0, .bool false, .slice none 0 0])
    rw [hwa1]; simpa using this
  rw [← hwa1]
  clear hwa1
  refine (bothN hN).mono ?_
  rintro e w2 ⟨rfl, hup⟩
  replace hk4 := hk4.up hup
  replace hupw := hupw.trans hup
  clear hup
  have hk4c0 := hk4.cell (i := 0) rfl
  have hk4c1 := hk4.cell (i := 1) rfl
  have hk4c2 := hk4.cell (i := 2) rfl
  have hk4c3 := hk4.cell (i := 3) rfl
  have hk4l := hk4.lt
  have hk4f0 := hk4.frozen 0
  have hk4f1 := hk4.frozen 1
  have hk4f2 := hk4.frozen 2
  have hk4f3 := hk4.frozen 3
  go_wp2_with fail
  clear hk4c0 hk4c1 hk4c2 hk4c3 hk4l hk4f0 hk4f1 hk4f2 hk4f3
  obtain ⟨ws3, hws3⟩ : ∃ x, x = (st4 w2 (w.heap.size + 1 + 1) (.bool false) (.slice none 0 0) (.bool false) (.slice none 0 0)) := ⟨_, rfl⟩
  clear hN
  replace hupw := hupw.st4 (g := (w.heap.size + 1 + 1)) (by omega) (.bool false) (.slice none 0 0) (.bool false) (.slice none 0 0)
  rw [← hws3] at hupw
  replace hk4 := hk4.four (.bool false) (.slice none 0 0) (.bool false) (.slice none 0 0)
  rw [← hws3] at hk4
  have hszws3 : ws3.heap.size = w2.heap.size := by rw [hws3]; simp [st4]
  unfold st4 at hws3
  rw [← hws3]
  clear hws3
  clear hszws3
  have hk4c0 := hk4.cell (i := 0) rfl
  have hk4c1 := hk4.cell (i := 1) rfl
  have hk4c2 := hk4.cell (i := 2) rfl
  have hk4c3 := hk4.cell (i := 3) rfl
  exact bodyPost_ret (v := .tuple #[.agg #[.bool false, .slice none 0 0, .bool false, .slice none 0 0], .int .i64 1]) (by simp [results, Tryz.results27, go_sem, hk4c0, hk4c1, hk4c2, hk4c3]) rfl ⟨_, rfl, Fz.mk (Iz.zero _) (Iz.zero _), hupw⟩
set_option maxRecDepth 100000 in
set_option maxHeartbeats 4000000 in
theorem divR_0 {a b : Rat} (v0 v1 : Value) (w : World) (f0 : Fz w v0 (nm a) (dn a)) (f1 : Fz w v1 (nm b) (dn b)) (hq : nm b = 0) :
    Calls Tryz.prog 27 #[v0, v1] w (PFE w 0 0 8) := by
  obtain ⟨s0, A0, n0, c0, t0, B0, m0, d0, rfl, h0, k0⟩ := f0
  obtain ⟨s1, A1, n1, c1, t1, B1, m1, d1, rfl, h1, k1⟩ := f1
  have hupw : Up w w := Up.refl w
  go_enter Tryz.func27, Tryz.ntmps27
  go_wp2_with fail
  obtain ⟨wa1, hwa1⟩ : ∃ x, x = (((w.alloc (.cells #[.bool s0, .slice A0 n0 c0, .bool t0, .slice B0 m0 d0] 29)).alloc (.cells #[.bool s1, .slice A1 n1 c1, .bool t1, .slice B1 m1 d1] 29)).alloc (.cells #[.bool false, .slice none 0 0, .bool false, .slice none 0 0] 29)) := ⟨_, rfl⟩
  have hup : Up w wa1 := by rw [hwa1]; exact ((((Up.refl w).alloc _).alloc _).alloc _)
  have hzwa1 : w.heap.size ≤ w.heap.size := hupw.size
  replace h0 := h0.up hup
  replace k0 := k0.up hup
  replace h1 := h1.up hup
  replace k1 := k1.up hup
  replace hupw := hupw.trans hup
  clear hup
  have hk2 : Bk wa1 (w.heap.size) 29 #[.bool s0, .slice A0 n0 c0, .bool t0, .slice B0 m0 d0] := by
    have := (((Bk.new w 29 #[.bool s0, .slice A0 n0 c0, .bool t0, .slice B0 m0 d0]).alloc (.cells #[.bool s1, .slice A1 n1 c1, .bool t1, .slice B1 m1 d1] 29)).alloc (.cells #[.bool false, .slice none 0 0, .bool false, .slice none 0 0] 29))
    rw [hwa1]; simpa using this
  have hk3 : Bk wa1 (w.heap.size + 1) 29 #[.bool s1, .slice A1 n1 c1, .bool t1, .slice B1 m1 d1] := by
    have := ((Bk.new (w.alloc (.cells #[.bool s0, .slice A0 n0 c0, .bool t0, .slice B0 m0 d0] 29)) 29 #[.bool s1, .slice A1 n1 c1, .bool t1, .slice B1 m1 d1]).alloc (.cells #[.bool false, .slice none 0 0, .bool false, .slice none 0 0] 29))
    rw [hwa1]; simpa using this
  have hk4 : Bk wa1 (w.heap.size + 1 + 1) 29 #[.bool false, .slice none 0 0, .bool false, .slice none 0 0] := by
    have := (Bk.new ((w.alloc (.cells #[.bool s0, .slice A0 n0 c0, .bool t0, .slice B0 m0 d0] 29)).alloc (.cells #[.bool s1, .slice A1 n1 c1, .bool t1, .slice B1 m1 d1] 29)) 29 #[.bool false, .slice none 0 0, .bool false, .slice none 0 0])
    rw [hwa1]; simpa using this
  rw [← hwa1]
  clear hwa1
  refine (bothQ (Fz.mk h0 k0) (Fz.mk h1 k1)).mono ?_
  rintro e w2 ⟨rfl, hup⟩
  replace hk3 := hk3.up hup
  replace hk4 := hk4.up hup
  replace h1 := h1.up hup
  replace hupw := hupw.trans hup
  clear hup
  have hk3c0 := hk3.cell (i := 0) rfl
  have hk3c1 := hk3.cell (i := 1) rfl
  have hk3c2 := hk3.cell (i := 2) rfl
  have hk3c3 := hk3.cell (i := 3) rfl
  have hk3l := hk3.lt
  go_wp2_with fail
  clear hk3c0 hk3c1 hk3c2 hk3c3 hk3l
  refine (signQ 0 h1 (Int.sign_eq_zero_iff_zero.2 hq)).mono ?_
  rintro e w3 ⟨rfl, hup⟩
  replace hk4 := hk4.up hup
  replace hupw := hupw.trans hup
  clear hup
  have hk4c0 := hk4.cell (i := 0) rfl
  have hk4c1 := hk4.cell (i := 1) rfl
  have hk4c2 := hk4.cell (i := 2) rfl
  have hk4c3 := hk4.cell (i := 3) rfl
  have hk4l := hk4.lt
  have hk4f0 := hk4.frozen 0
  have hk4f1 := hk4.frozen 1
  have hk4f2 := hk4.frozen 2
  have hk4f3 := hk4.frozen 3
  go_wp2_with fail
  clear hk4c0 hk4c1 hk4c2 hk4c3 hk4l hk4f0 hk4f1 hk4f2 hk4f3
  obtain ⟨ws4, hws4⟩ : ∃ x, x = (st4 w3 (w.heap.size + 1 + 1) (.bool false) (.slice none 0 0) (.bool false) (.slice none 0 0)) := ⟨_, rfl⟩
  replace hupw := hupw.st4 (g := (w.heap.size + 1 + 1)) (by omega) (.bool false) (.slice none 0 0) (.bool false) (.slice none 0 0)
  rw [← hws4] at hupw
  replace hk4 := hk4.four (.bool false) (.slice none 0 0) (.bool false) (.slice none 0 0)
  rw [← hws4] at hk4
  have hszws4 : ws4.heap.size = w3.heap.size := by rw [hws4]; simp [st4]
  unfold st4 at hws4
  rw [← hws4]
  clear hws4
  clear hszws4
  have hk4c0 := hk4.cell (i := 0) rfl
  have hk4c1 := hk4.cell (i := 1) rfl
  have hk4c2 := hk4.cell (i := 2) rfl
  have hk4c3 := hk4.cell (i := 3) rfl
  exact bodyPost_ret (v := .tuple #[.agg #[.bool false, .slice none 0 0, .bool false, .slice none 0 0], .int .i64 8]) (by simp [results, Tryz.results27, go_sem, hk4c0, hk4c1, hk4c2, hk4c3]) rfl ⟨_, rfl, Fz.mk (Iz.zero _) (Iz.zero _), hupw⟩
set_option maxRecDepth 100000 in
set_option maxHeartbeats 4000000 in
theorem divR_p {a b : Rat} (v0 v1 : Value) (w : World) (f0 : Fz w v0 (nm a) (dn a)) (f1 : Fz w v1 (nm b) (dn b)) (hq : 0 < nm b) :
    Calls Tryz.prog 27 #[v0, v1] w (PR w (quoR (nm a * dn b) (dn a * nm b))) := by
  obtain ⟨s0, A0, n0, c0, t0, B0, m0, d0, rfl, h0, k0⟩ := f0
  obtain ⟨s1, A1, n1, c1, t1, B1, m1, d1, rfl, h1, k1⟩ := f1
  have hupw : Up w w := Up.refl w
  go_enter Tryz.func27, Tryz.ntmps27
  go_wp2_with fail
  obtain ⟨wa1, hwa1⟩ : ∃ x, x = (((w.alloc (.cells #[.bool s0, .slice A0 n0 c0, .bool t0, .slice B0 m0 d0] 29)).alloc (.cells #[.bool s1, .slice A1 n1 c1, .bool t1, .slice B1 m1 d1] 29)).alloc (.cells #[.bool false, .slice none 0 0, .bool false, .slice none 0 0] 29)) := ⟨_, rfl⟩
  have hup : Up w wa1 := by rw [hwa1]; exact ((((Up.refl w).alloc _).alloc _).alloc _)
  have hzwa1 : w.heap.size ≤ w.heap.size := hupw.size
  replace h0 := h0.up hup
  replace k0 := k0.up hup
  replace h1 := h1.up hup
  replace k1 := k1.up hup
  replace hupw := hupw.trans hup
  clear hup
  have hk2 : Bk wa1 (w.heap.size) 29 #[.bool s0, .slice A0 n0 c0, .bool t0, .slice B0 m0 d0] := by
    have := (((Bk.new w 29 #[.bool s0, .slice A0 n0 c0, .bool t0, .slice B0 m0 d0]).alloc (.cells #[.bool s1, .slice A1 n1 c1, .bool t1, .slice B1 m1 d1] 29)).alloc (.cells #[.bool false, .slice none 0 0, .bool false, .slice none 0 0] 29))
    rw [hwa1]; simpa using this
  have hk3 : Bk wa1 (w.heap.size + 1) 29 #[.bool s1, .slice A1 n1 c1, .bool t1, .slice B1 m1 d1] := by
    have := ((Bk.new (w.alloc (.cells #[.bool s0, .slice A0 n0 c0, .bool t0, .slice B0 m0 d0] 29)) 29 #[.bool s1, .slice A1 n1 c1, .bool t1, .slice B1 m1 d1]).alloc (.cells #[.bool false, .slice none 0 0, .bool false, .slice none 0 0] 29))
    rw [hwa1]; simpa using this
  have hk4 : Bk wa1 (w.heap.size + 1 + 1) 29 #[.bool false, .slice none 0 0, .bool false, .slice none 0 0] := by
    have := (Bk.new ((w.alloc (.cells #[.bool s0, .slice A0 n0 c0, .bool t0, .slice B0 m0 d0] 29)).alloc (.cells #[.bool s1, .slice A1 n1 c1, .bool t1, .slice B1 m1 d1] 29)) 29 #[.bool false, .slice none 0 0, .bool false, .slice none 0 0])
    rw [hwa1]; simpa using this
  rw [← hwa1]
  clear hwa1
  refine (bothQ (Fz.mk h0 k0) (Fz.mk h1 k1)).mono ?_
  rintro e w2 ⟨rfl, hup⟩
  replace hk2 := hk2.up hup
  replace hk3 := hk3.up hup
  replace hk4 := hk4.up hup
  replace h0 := h0.up hup
  replace k0 := k0.up hup
  replace h1 := h1.up hup
  replace k1 := k1.up hup
  replace hupw := hupw.trans hup
  clear hup
  have hk3c0 := hk3.cell (i := 0) rfl
  have hk3c1 := hk3.cell (i := 1) rfl
  have hk3c2 := hk3.cell (i := 2) rfl
  have hk3c3 := hk3.cell (i := 3) rfl
  have hk3l := hk3.lt
  go_wp2_with fail
  clear hk3c0 hk3c1 hk3c2 hk3c3 hk3l
  refine (signQ 1 h1 (Int.sign_eq_one_of_pos hq)).mono ?_
  rintro e w3 ⟨rfl, hup⟩
  replace hk2 := hk2.up hup
  replace hk3 := hk3.up hup
  replace hk4 := hk4.up hup
  replace h0 := h0.up hup
  replace k0 := k0.up hup
  replace h1 := h1.up hup
  replace k1 := k1.up hup
  replace hupw := hupw.trans hup
  clear hup
  have hk2c0 := hk2.cell (i := 0) rfl
  have hk2c1 := hk2.cell (i := 1) rfl
  have hk2c2 := hk2.cell (i := 2) rfl
  have hk2c3 := hk2.cell (i := 3) rfl
  have hk2l := hk2.lt
  have hk3c0 := hk3.cell (i := 0) rfl
  have hk3c1 := hk3.cell (i := 1) rfl
  have hk3c2 := hk3.cell (i := 2) rfl
  have hk3c3 := hk3.cell (i := 3) rfl
  have hk3l := hk3.lt
  go_wp2_with fail
  clear hk2c0 hk2c1 hk2c2 hk2c3 hk2l hk3c0 hk3c1 hk3c2 hk3c3 hk3l
  refine (fracQ h0 k1 k0 h1 (Int.mul_ne_zero (dn_ne a) (by omega))).mono ?_
  rintro e w4 ⟨vf, rfl, hf, hup⟩
  replace hk4 := hk4.up hup
  replace hupw := hupw.trans hup
  clear hup
  obtain ⟨s_5, A_5, n_5, c_5, s_6, A_6, n_6, c_6, rfl, h_5, h_6⟩ := hf
  have hk4c0 := hk4.cell (i := 0) rfl
  have hk4c1 := hk4.cell (i := 1) rfl
  have hk4c2 := hk4.cell (i := 2) rfl
  have hk4c3 := hk4.cell (i := 3) rfl
  have hk4l := hk4.lt
  have hk4f0 := hk4.frozen 0
  have hk4f1 := hk4.frozen 1
  have hk4f2 := hk4.frozen 2
  have hk4f3 := hk4.frozen 3
  go_wp2_with fail
  clear hk4c0 hk4c1 hk4c2 hk4c3 hk4l hk4f0 hk4f1 hk4f2 hk4f3
  obtain ⟨ws7, hws7⟩ : ∃ x, x = (st4 w4 (w.heap.size + 1 + 1) (.bool s_5) (.slice A_5 n_5 c_5) (.bool s_6) (.slice A_6 n_6 c_6)) := ⟨_, rfl⟩
  have h_5' := h_5.st4 hk4 (noU4 _ _ _ _ _ _ _ _) (.bool s_5) (.slice A_5 n_5 c_5) (.bool s_6) (.slice A_6 n_6 c_6)
  have h_6' := h_6.st4 hk4 (noU4 _ _ _ _ _ _ _ _) (.bool s_5) (.slice A_5 n_5 c_5) (.bool s_6) (.slice A_6 n_6 c_6)
  rw [← hws7] at h_5'
  clear h_5
  have h_5 := h_5'
  clear h_5'
  rw [← hws7] at h_6'
  clear h_6
  have h_6 := h_6'
  clear h_6'
  replace hupw := hupw.st4 (g := (w.heap.size + 1 + 1)) (by omega) (.bool s_5) (.slice A_5 n_5 c_5) (.bool s_6) (.slice A_6 n_6 c_6)
  rw [← hws7] at hupw
  replace hk4 := hk4.four (.bool s_5) (.slice A_5 n_5 c_5) (.bool s_6) (.slice A_6 n_6 c_6)
  rw [← hws7] at hk4
  have hszws7 : ws7.heap.size = w4.heap.size := by rw [hws7]; simp [st4]
  unfold st4 at hws7
  rw [← hws7]
  clear hws7
  clear hszws7
  have hk4c0 := hk4.cell (i := 0) rfl
  have hk4c1 := hk4.cell (i := 1) rfl
  have hk4c2 := hk4.cell (i := 2) rfl
  have hk4c3 := hk4.cell (i := 3) rfl
  exact bodyPost_ret (v := .tuple #[.agg #[.bool s_5, .slice A_5 n_5 c_5, .bool s_6, .slice A_6 n_6 c_6], .int .i64 (quoR (nm a * dn b) (dn a * nm b)).e]) (by simp [results, Tryz.results27, go_sem, hk4c0, hk4c1, hk4c2, hk4c3]) rfl ⟨_, rfl, Fz.mk h_5 h_6, hupw⟩
set_option maxRecDepth 100000 in
set_option maxHeartbeats 4000000 in
theorem divR_m {a b : Rat} (v0 v1 : Value) (w : World) (f0 : Fz w v0 (nm a) (dn a)) (f1 : Fz w v1 (nm b) (dn b)) (hq : nm b < 0) :
    Calls Tryz.prog 27 #[v0, v1] w (PR w (quoR (nm a * dn b) (dn a * nm b))) := by
  obtain ⟨s0, A0, n0, c0, t0, B0, m0, d0, rfl, h0, k0⟩ := f0
  obtain ⟨s1, A1, n1, c1, t1, B1, m1, d1, rfl, h1, k1⟩ := f1
  have hupw : Up w w := Up.refl w
  go_enter Tryz.func27, Tryz.ntmps27
  go_wp2_with fail
  obtain ⟨wa1, hwa1⟩ : ∃ x, x = (((w.alloc (.cells #[.bool s0, .slice A0 n0 c0, .bool t0, .slice B0 m0 d0] 29)).alloc (.cells #[.bool s1, .slice A1 n1 c1, .bool t1, .slice B1 m1 d1] 29)).alloc (.cells #[.bool false, .slice none 0 0, .bool false, .slice none 0 0] 29)) := ⟨_, rfl⟩
  have hup : Up w wa1 := by rw [hwa1]; exact ((((Up.refl w).alloc _).alloc _).alloc _)
  have hzwa1 : w.heap.size ≤ w.heap.size := hupw.size
  replace h0 := h0.up hup
  replace k0 := k0.up hup
  replace h1 := h1.up hup
  replace k1 := k1.up hup
  replace hupw := hupw.trans hup
  clear hup
  have hk2 : Bk wa1 (w.heap.size) 29 #[.bool s0, .slice A0 n0 c0, .bool t0, .slice B0 m0 d0] := by
    have := (((Bk.new w 29 #[.bool s0, .slice A0 n0 c0, .bool t0, .slice B0 m0 d0]).alloc (.cells #[.bool s1, .slice A1 n1 c1, .bool t1, .slice B1 m1 d1] 29)).alloc (.cells #[.bool false, .slice none 0 0, .bool false, .slice none 0 0] 29))
    rw [hwa1]; simpa using this
  have hk3 : Bk wa1 (w.heap.size + 1) 29 #[.bool s1, .slice A1 n1 c1, .bool t1, .slice B1 m1 d1] := by
    have := ((Bk.new (w.alloc (.cells #[.bool s0, .slice A0 n0 c0, .bool t0, .slice B0 m0 d0] 29)) 29 #[.bool s1, .slice A1 n1 c1, .bool t1, .slice B1 m1 d1]).alloc (.cells #[.bool false, .slice none 0 0, .bool false, .slice none 0 0] 29))
    rw [hwa1]; simpa using this
  have hk4 : Bk wa1 (w.heap.size + 1 + 1) 29 #[.bool false, .slice none 0 0, .bool false, .slice none 0 0] := by
    have := (Bk.new ((w.alloc (.cells #[.bool s0, .slice A0 n0 c0, .bool t0, .slice B0 m0 d0] 29)).alloc (.cells #[.bool s1, .slice A1 n1 c1, .bool t1, .slice B1 m1 d1] 29)) 29 #[.bool false, .slice none 0 0, .bool false, .slice none 0 0])
    rw [hwa1]; simpa using this
  rw [← hwa1]
  clear hwa1
  refine (bothQ (Fz.mk h0 k0) (Fz.mk h1 k1)).mono ?_
  rintro e w2 ⟨rfl, hup⟩
  replace hk2 := hk2.up hup
  replace hk3 := hk3.up hup
  replace hk4 := hk4.up hup
  replace h0 := h0.up hup
  replace k0 := k0.up hup
  replace h1 := h1.up hup
  replace k1 := k1.up hup
  replace hupw := hupw.trans hup
  clear hup
  have hk3c0 := hk3.cell (i := 0) rfl
  have hk3c1 := hk3.cell (i := 1) rfl
  have hk3c2 := hk3.cell (i := 2) rfl
  have hk3c3 := hk3.cell (i := 3) rfl
  have hk3l := hk3.lt
  go_wp2_with fail
  clear hk3c0 hk3c1 hk3c2 hk3c3 hk3l
  refine (signQ (-1) h1 (Int.sign_eq_neg_one_of_neg hq)).mono ?_
  rintro e w3 ⟨rfl, hup⟩
  replace hk2 := hk2.up hup
  replace hk3 := hk3.up hup
  replace hk4 := hk4.up hup
  replace h0 := h0.up hup
  replace k0 := k0.up hup
  replace h1 := h1.up hup
  replace k1 := k1.up hup
  replace hupw := hupw.trans hup
  clear hup
  have hk2c0 := hk2.cell (i := 0) rfl
  have hk2c1 := hk2.cell (i := 1) rfl
  have hk2c2 := hk2.cell (i := 2) rfl
  have hk2c3 := hk2.cell (i := 3) rfl
  have hk2l := hk2.lt
  have hk3c0 := hk3.cell (i := 0) rfl
  have hk3c1 := hk3.cell (i := 1) rfl
  have hk3c2 := hk3.cell (i := 2) rfl
  have hk3c3 := hk3.cell (i := 3) rfl
  have hk3l := hk3.lt
  go_wp2_with fail
  clear hk2c0 hk2c1 hk2c2 hk2c3 hk2l hk3c0 hk3c1 hk3c2 hk3c3 hk3l
  refine (fracQ h0 k1 k0 h1 (Int.mul_ne_zero (dn_ne a) (by omega))).mono ?_
  rintro e w4 ⟨vf, rfl, hf, hup⟩
  replace hk4 := hk4.up hup
  replace hupw := hupw.trans hup
  clear hup
  obtain ⟨s_5, A_5, n_5, c_5, s_6, A_6, n_6, c_6, rfl, h_5, h_6⟩ := hf
  have hk4c0 := hk4.cell (i := 0) rfl
  have hk4c1 := hk4.cell (i := 1) rfl
  have hk4c2 := hk4.cell (i := 2) rfl
  have hk4c3 := hk4.cell (i := 3) rfl
  have hk4l := hk4.lt
  have hk4f0 := hk4.frozen 0
  have hk4f1 := hk4.frozen 1
  have hk4f2 := hk4.frozen 2
  have hk4f3 := hk4.frozen 3
  go_wp2_with fail
  clear hk4c0 hk4c1 hk4c2 hk4c3 hk4l hk4f0 hk4f1 hk4f2 hk4f3
  obtain ⟨ws7, hws7⟩ : ∃ x, x = (st4 w4 (w.heap.size + 1 + 1) (.bool s_5) (.slice A_5 n_5 c_5) (.bool s_6) (.slice A_6 n_6 c_6)) := ⟨_, rfl⟩
  have h_5' := h_5.st4 hk4 (noU4 _ _ _ _ _ _ _ _) (.bool s_5) (.slice A_5 n_5 c_5) (.bool s_6) (.slice A_6 n_6 c_6)
  have h_6' := h_6.st4 hk4 (noU4 _ _ _ _ _ _ _ _) (.bool s_5) (.slice A_5 n_5 c_5) (.bool s_6) (.slice A_6 n_6 c_6)
  rw [← hws7] at h_5'
  clear h_5
  have h_5 := h_5'
  clear h_5'
  rw [← hws7] at h_6'
  clear h_6
  have h_6 := h_6'
  clear h_6'
  replace hupw := hupw.st4 (g := (w.heap.size + 1 + 1)) (by omega) (.bool s_5) (.slice A_5 n_5 c_5) (.bool s_6) (.slice A_6 n_6 c_6)
  rw [← hws7] at hupw
  replace hk4 := hk4.four (.bool s_5) (.slice A_5 n_5 c_5) (.bool s_6) (.slice A_6 n_6 c_6)
  rw [← hws7] at hk4
  have hszws7 : ws7.heap.size = w4.heap.size := by rw [hws7]; simp [st4]
  unfold st4 at hws7
  rw [← hws7]
  clear hws7
  clear hszws7
  have hk4c0 := hk4.cell (i := 0) rfl
  have hk4c1 := hk4.cell (i := 1) rfl
  have hk4c2 := hk4.cell (i := 2) rfl
  have hk4c3 := hk4.cell (i := 3) rfl
  exact bodyPost_ret (v := .tuple #[.agg #[.bool s_5, .slice A_5 n_5 c_5, .bool s_6, .slice A_6 n_6 c_6], .int .i64 (quoR (nm a * dn b) (dn a * nm b)).e]) (by simp [results, Tryz.results27, go_sem, hk4c0, hk4c1, hk4c2, hk4c3]) rfl ⟨_, rfl, Fz.mk h_5 h_6, hupw⟩
theorem divRQ {w : World} {v v' : Value} {a b : Rat} (h : Rz w v a) (h' : Rz w v' b) : Calls Tryz.prog 27 #[v, v'] w (PR w (divR a b)) := by
  unfold divR
  rcases Int.lt_trichotomy (nm b) 0 with hq | hq | hq
  · rw [if_neg (by omega)]; exact divR_m v v' w h h' hq
  · rw [if_pos hq]; exact divR_0 v v' w h h' hq
  · rw [if_neg (by omega)]; exact divR_p v v' w h h' hq
set_option maxRecDepth 100000 in
set_option maxHeartbeats 4000000 in
theorem cmpN2 (v0 v1 : Value) (w : World)  (hN : N2 w v0 v1) :
    Calls Tryz.prog 23 #[v0, v1] w (PNE w 0 1) := by
  obtain ⟨s0, A0, n0, c0, t0, B0, m0, d0, rfl⟩ := hN.1.agg4
  obtain ⟨s1, A1, n1, c1, t1, B1, m1, d1, rfl⟩ := hN.2.1.agg4
  have hupw : Up w w := Up.refl w
  go_enter Tryz.func23, Tryz.ntmps23
  go_wp2_with fail
  obtain ⟨wa1, hwa1⟩ : ∃ x, x = ((w.alloc (.cells #[.bool s0, .slice A0 n0 c0, .bool t0, .slice B0 m0 d0] 29)).alloc (.cells #[.bool s1, .slice A1 n1 c1, .bool t1, .slice B1 m1 d1] 29)) := ⟨_, rfl⟩
  have hup : Up w wa1 := by rw [hwa1]; exact (((Up.refl w).alloc _).alloc _)
  have hzwa1 : w.heap.size ≤ w.heap.size := hupw.size
  replace hN := hN.up hup
  replace hupw := hupw.trans hup
  clear hup
  have hk2 : Bk wa1 (w.heap.size) 29 #[.bool s0, .slice A0 n0 c0, .bool t0, .slice B0 m0 d0] := by
    have := ((Bk.new w 29 #[.bool s0, .slice A0 n0 c0, .bool t0, .slice B0 m0 d0]).alloc (.cells #[.bool s1, .slice A1 n1 c1, .bool t1, .slice B1 m1 d1] 29))
    rw [hwa1]; simpa using this
  have hk3 : Bk wa1 (w.heap.size + 1) 29 #[.bool s1, .slice A1 n1 c1, .bool t1, .slice B1 m1 d1] := by
    have := (Bk.new (w.alloc (.cells #[.bool s0, .slice A0 n0 c0, .bool t0, .slice B0 m0 d0] 29)) 29 #[.bool s1, .slice A1 n1 c1, .bool t1, .slice B1 m1 d1])
    rw [hwa1]; simpa using this
  rw [← hwa1]
  clear hwa1
  refine (bothN hN).mono ?_
  rintro e w2 ⟨rfl, hup⟩
  replace hupw := hupw.trans hup
  clear hup
  go_wp2_with fail
  go_ret2
  exact ⟨rfl, hupw⟩
set_option maxRecDepth 100000 in
set_option maxHeartbeats 4000000 in
theorem cmpR_n {a b : Rat} (v0 v1 : Value) (w : World) (f0 : Fz w v0 (nm a) (dn a)) (f1 : Fz w v1 (nm b) (dn b)) (hb : (okB (nm a * dn b) && okB (nm b * dn a)) = false) :
    Calls Tryz.prog 23 #[v0, v1] w (PNE w 0 3) := by
  obtain ⟨s0, A0, n0, c0, t0, B0, m0, d0, rfl, h0, k0⟩ := f0
  obtain ⟨s1, A1, n1, c1, t1, B1, m1, d1, rfl, h1, k1⟩ := f1
  have hupw : Up w w := Up.refl w
  go_enter Tryz.func23, Tryz.ntmps23
  go_wp2_with fail
  obtain ⟨wa1, hwa1⟩ : ∃ x, x = ((w.alloc (.cells #[.bool s0, .slice A0 n0 c0, .bool t0, .slice B0 m0 d0] 29)).alloc (.cells #[.bool s1, .slice A1 n1 c1, .bool t1, .slice B1 m1 d1] 29)) := ⟨_, rfl⟩
  have hup : Up w wa1 := by rw [hwa1]; exact (((Up.refl w).alloc _).alloc _)
  have hzwa1 : w.heap.size ≤ w.heap.size := hupw.size
  replace h0 := h0.up hup
  replace k0 := k0.up hup
  replace h1 := h1.up hup
  replace k1 := k1.up hup
  replace hupw := hupw.trans hup
  clear hup
  have hk2 : Bk wa1 (w.heap.size) 29 #[.bool s0, .slice A0 n0 c0, .bool t0, .slice B0 m0 d0] := by
    have := ((Bk.new w 29 #[.bool s0, .slice A0 n0 c0, .bool t0, .slice B0 m0 d0]).alloc (.cells #[.bool s1, .slice A1 n1 c1, .bool t1, .slice B1 m1 d1] 29))
    rw [hwa1]; simpa using this
  have hk3 : Bk wa1 (w.heap.size + 1) 29 #[.bool s1, .slice A1 n1 c1, .bool t1, .slice B1 m1 d1] := by
    have := (Bk.new (w.alloc (.cells #[.bool s0, .slice A0 n0 c0, .bool t0, .slice B0 m0 d0] 29)) 29 #[.bool s1, .slice A1 n1 c1, .bool t1, .slice B1 m1 d1])
    rw [hwa1]; simpa using this
  rw [← hwa1]
  clear hwa1
  refine (bothQ (Fz.mk h0 k0) (Fz.mk h1 k1)).mono ?_
  rintro e w2 ⟨rfl, hup⟩
  replace hk2 := hk2.up hup
  replace hk3 := hk3.up hup
  replace h0 := h0.up hup
  replace k0 := k0.up hup
  replace h1 := h1.up hup
  replace k1 := k1.up hup
  replace hupw := hupw.trans hup
  clear hup
  have hk2c0 := hk2.cell (i := 0) rfl
  have hk2c1 := hk2.cell (i := 1) rfl
  have hk2c2 := hk2.cell (i := 2) rfl
  have hk2c3 := hk2.cell (i := 3) rfl
  have hk2l := hk2.lt
  have hk3c0 := hk3.cell (i := 0) rfl
  have hk3c1 := hk3.cell (i := 1) rfl
  have hk3c2 := hk3.cell (i := 2) rfl
  have hk3c3 := hk3.cell (i := 3) rfl
  have hk3l := hk3.lt
  go_wp2_with fail
  clear hk2c0 hk2c1 hk2c2 hk2c3 hk2l hk3c0 hk3c1 hk3c2 hk3c3 hk3l
  refine (prodN h0 k1 h1 k0 hb).mono ?_
  rintro e w3 ⟨v_4, v_5, rfl, h_4, h_5, hup⟩
  replace hk3 := hk3.up hup
  replace hupw := hupw.trans hup
  clear hup
  obtain ⟨s_4, A_4, n_4, c_4, rfl⟩ := h_4.agg
  obtain ⟨s_5, A_5, n_5, c_5, rfl⟩ := h_5.agg
  go_wp2_with fail
  obtain ⟨wa6, hwa6⟩ : ∃ x, x = ((w3.alloc (.cells #[.bool s_4, .slice A_4 n_4 c_4] 24)).alloc (.cells #[.bool s_5, .slice A_5 n_5 c_5] 24)) := ⟨_, rfl⟩
  have hup : Up w3 wa6 := by rw [hwa6]; exact (((Up.refl w3).alloc _).alloc _)
  have howa6 : (w.heap.size + 1) < w3.heap.size := hk3.lt
  have hzwa6 : w.heap.size ≤ w3.heap.size := hupw.size
  replace hupw := hupw.trans hup
  clear hup
  have hk6 : Bk wa6 (w3.heap.size) 24 #[.bool s_4, .slice A_4 n_4 c_4] := by
    have := ((Bk.new w3 24 #[.bool s_4, .slice A_4 n_4 c_4]).alloc (.cells #[.bool s_5, .slice A_5 n_5 c_5] 24))
    rw [hwa6]; simpa using this
  have hk7 : Bk wa6 (w3.heap.size + 1) 24 #[.bool s_5, .slice A_5 n_5 c_5] := by
    have := (Bk.new (w3.alloc (.cells #[.bool s_4, .slice A_4 n_4 c_4] 24)) 24 #[.bool s_5, .slice A_5 n_5 c_5])
    rw [hwa6]; simpa using this
  rw [← hwa6]
  clear hwa6
  go_ret2
  exact ⟨rfl, hupw⟩
set_option maxRecDepth 100000 in
set_option maxHeartbeats 4000000 in
theorem cmpR_y {a b : Rat} {k : Int} (v0 v1 : Value) (w : World) (f0 : Fz w v0 (nm a) (dn a)) (f1 : Fz w v1 (nm b) (dn b)) (hb : okB (nm a * dn b) = true) (hb2 : okB (nm b * dn a) = true) (hk : cmpZ (nm a * dn b) (nm b * dn a) = k) :
    Calls Tryz.prog 23 #[v0, v1] w (PNE w k 0) := by
  obtain ⟨s0, A0, n0, c0, t0, B0, m0, d0, rfl, h0, k0⟩ := f0
  obtain ⟨s1, A1, n1, c1, t1, B1, m1, d1, rfl, h1, k1⟩ := f1
  have hupw : Up w w := Up.refl w
  go_enter Tryz.func23, Tryz.ntmps23
  go_wp2_with fail
  obtain ⟨wa1, hwa1⟩ : ∃ x, x = ((w.alloc (.cells #[.bool s0, .slice A0 n0 c0, .bool t0, .slice B0 m0 d0] 29)).alloc (.cells #[.bool s1, .slice A1 n1 c1, .bool t1, .slice B1 m1 d1] 29)) := ⟨_, rfl⟩
  have hup : Up w wa1 := by rw [hwa1]; exact (((Up.refl w).alloc _).alloc _)
  have hzwa1 : w.heap.size ≤ w.heap.size := hupw.size
  replace h0 := h0.up hup
  replace k0 := k0.up hup
  replace h1 := h1.up hup
  replace k1 := k1.up hup
  replace hupw := hupw.trans hup
  clear hup
  have hk2 : Bk wa1 (w.heap.size) 29 #[.bool s0, .slice A0 n0 c0, .bool t0, .slice B0 m0 d0] := by
    have := ((Bk.new w 29 #[.bool s0, .slice A0 n0 c0, .bool t0, .slice B0 m0 d0]).alloc (.cells #[.bool s1, .slice A1 n1 c1, .bool t1, .slice B1 m1 d1] 29))
    rw [hwa1]; simpa using this
  have hk3 : Bk wa1 (w.heap.size + 1) 29 #[.bool s1, .slice A1 n1 c1, .bool t1, .slice B1 m1 d1] := by
    have := (Bk.new (w.alloc (.cells #[.bool s0, .slice A0 n0 c0, .bool t0, .slice B0 m0 d0] 29)) 29 #[.bool s1, .slice A1 n1 c1, .bool t1, .slice B1 m1 d1])
    rw [hwa1]; simpa using this
  rw [← hwa1]
  clear hwa1
  refine (bothQ (Fz.mk h0 k0) (Fz.mk h1 k1)).mono ?_
  rintro e w2 ⟨rfl, hup⟩
  replace hk2 := hk2.up hup
  replace hk3 := hk3.up hup
  replace h0 := h0.up hup
  replace k0 := k0.up hup
  replace h1 := h1.up hup
  replace k1 := k1.up hup
  replace hupw := hupw.trans hup
  clear hup
  have hk2c0 := hk2.cell (i := 0) rfl
  have hk2c1 := hk2.cell (i := 1) rfl
  have hk2c2 := hk2.cell (i := 2) rfl
  have hk2c3 := hk2.cell (i := 3) rfl
  have hk2l := hk2.lt
  have hk3c0 := hk3.cell (i := 0) rfl
  have hk3c1 := hk3.cell (i := 1) rfl
  have hk3c2 := hk3.cell (i := 2) rfl
  have hk3c3 := hk3.cell (i := 3) rfl
  have hk3l := hk3.lt
  go_wp2_with fail
  clear hk2c0 hk2c1 hk2c2 hk2c3 hk2l hk3c0 hk3c1 hk3c2 hk3c3 hk3l
  refine (prodQ _ _ _ _ _ h0 k1 h1 k0 hb hb2).mono ?_
  rintro e w3 ⟨v_4, v_5, rfl, h_4, h_5, hup⟩
  replace hk3 := hk3.up hup
  replace hupw := hupw.trans hup
  clear hup
  obtain ⟨s_4, A_4, n_4, c_4, rfl⟩ := h_4.agg
  obtain ⟨s_5, A_5, n_5, c_5, rfl⟩ := h_5.agg
  go_wp2_with fail
  obtain ⟨wa6, hwa6⟩ : ∃ x, x = ((w3.alloc (.cells #[.bool s_4, .slice A_4 n_4 c_4] 24)).alloc (.cells #[.bool s_5, .slice A_5 n_5 c_5] 24)) := ⟨_, rfl⟩
  have hup : Up w3 wa6 := by rw [hwa6]; exact (((Up.refl w3).alloc _).alloc _)
  have howa6 : (w.heap.size + 1) < w3.heap.size := hk3.lt
  have hzwa6 : w.heap.size ≤ w3.heap.size := hupw.size
  replace h_4 := h_4.up hup
  replace h_5 := h_5.up hup
  replace hupw := hupw.trans hup
  clear hup
  have hk6 : Bk wa6 (w3.heap.size) 24 #[.bool s_4, .slice A_4 n_4 c_4] := by
    have := ((Bk.new w3 24 #[.bool s_4, .slice A_4 n_4 c_4]).alloc (.cells #[.bool s_5, .slice A_5 n_5 c_5] 24))
    rw [hwa6]; simpa using this
  have hk7 : Bk wa6 (w3.heap.size + 1) 24 #[.bool s_5, .slice A_5 n_5 c_5] := by
    have := (Bk.new (w3.alloc (.cells #[.bool s_4, .slice A_4 n_4 c_4] 24)) 24 #[.bool s_5, .slice A_5 n_5 c_5])
    rw [hwa6]; simpa using this
  rw [← hwa6]
  clear hwa6
  refine (cmpQ k h_4 h_5 hk).mono ?_
  rintro e w7 ⟨rfl, hup⟩
  replace hupw := hupw.trans hup
  clear hup
  go_wp2_with fail
  go_ret2
  exact ⟨rfl, hupw⟩
/-- What Cmp gives. -/
def cmpV (a b : Rat) : Int := if crossB a b then cmpZ (nm a * dn b) (nm b * dn a) else 0
def cmpE (a b : Rat) : Int := if crossB a b then 0 else 3
theorem cmpRQ {w : World} {v v' : Value} {a b : Rat} (h : Rz w v a) (h' : Rz w v' b) : Calls Tryz.prog 23 #[v, v'] w (PNE w (cmpV a b) (cmpE a b)) := by
  unfold cmpV cmpE crossB
  cases hb : (okB (nm a * dn b) && okB (nm b * dn a)) with
  | false => exact cmpR_n v v' w h h' hb
  | true =>
    simp only [Bool.and_eq_true] at hb
    exact cmpR_y v v' w h h' hb.1 hb.2 rfl

end Go.Proofs.YtldifgfpecicnaaGreatDoor
