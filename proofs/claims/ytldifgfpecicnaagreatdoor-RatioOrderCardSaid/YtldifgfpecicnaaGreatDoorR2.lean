/- Fractions: products, one, valid. -/
import Derived.Test.YtldifgfpecicnaaGreatDoorR1
import Derived.Test.YtldifgfpecicnaaGreatDoorREq
import Derived.Deep.RegionHeld3
import Derived.RegionTactic
namespace Go.Proofs.YtldifgfpecicnaaGreatDoor
open Go.RowKit

set_option maxRecDepth 100000 in
set_option maxHeartbeats 4000000 in
theorem prodQ {x y z u : Int} (v0 v1 v2 v3 : Value) (w : World) (h0 : Iz w v0 (x)) (h1 : Iz w v1 (y)) (h2 : Iz w v2 (z)) (h3 : Iz w v3 (u)) (hz : okB (x * y) = true) (hz2 : okB (z * u) = true) :
    Calls Tryz.prog 59 #[v0, v1, v2, v3] w (PIIE w (x * y) (z * u) 0) := by
  obtain ⟨s0, A0, n0, c0, rfl⟩ := h0.agg
  obtain ⟨s1, A1, n1, c1, rfl⟩ := h1.agg
  obtain ⟨s2, A2, n2, c2, rfl⟩ := h2.agg
  obtain ⟨s3, A3, n3, c3, rfl⟩ := h3.agg
  have hupw : Up w w := Up.refl w
  go_enter Tryz.func59, Tryz.ntmps59
  go_wp2_with fail
  obtain ⟨wa1, hwa1⟩ : ∃ x, x = ((((((w.alloc (.cells #[.bool s0, .slice A0 n0 c0] 24)).alloc (.cells #[.bool s1, .slice A1 n1 c1] 24)).alloc (.cells #[.bool s2, .slice A2 n2 c2] 24)).alloc (.cells #[.bool s3, .slice A3 n3 c3] 24)).alloc (.cells #[.bool false, .slice none 0 0] 24)).alloc (.cells #[.bool false, .slice none 0 0] 24)) := ⟨_, rfl⟩
  have hup : Up w wa1 := by rw [hwa1]; exact (((((((Up.refl w).alloc _).alloc _).alloc _).alloc _).alloc _).alloc _)
  have hzwa1 : w.heap.size ≤ w.heap.size := hupw.size
  replace h0 := h0.up hup
  replace h1 := h1.up hup
  replace h2 := h2.up hup
  replace h3 := h3.up hup
  replace hupw := hupw.trans hup
  clear hup
  have hk4 : Bk wa1 (w.heap.size) 24 #[.bool s0, .slice A0 n0 c0] := by
    have := ((((((Bk.new w 24 #[.bool s0, .slice A0 n0 c0]).alloc (.cells #[.bool s1, .slice A1 n1 c1] 24)).alloc (.cells #[.bool s2, .slice A2 n2 c2] 24)).alloc (.cells #[.bool s3, .slice A3 n3 c3] 24)).alloc (.cells #[.bool false, .slice none 0 0] 24)).alloc (.cells #[.bool false, .slice none 0 0] 24))
    rw [hwa1]; simpa using this
  have hk5 : Bk wa1 (w.heap.size + 1) 24 #[.bool s1, .slice A1 n1 c1] := by
    have := (((((Bk.new (w.alloc (.cells #[.bool s0, .slice A0 n0 c0] 24)) 24 #[.bool s1, .slice A1 n1 c1]).alloc (.cells #[.bool s2, .slice A2 n2 c2] 24)).alloc (.cells #[.bool s3, .slice A3 n3 c3] 24)).alloc (.cells #[.bool false, .slice none 0 0] 24)).alloc (.cells #[.bool false, .slice none 0 0] 24))
    rw [hwa1]; simpa using this
  have hk6 : Bk wa1 (w.heap.size + 1 + 1) 24 #[.bool s2, .slice A2 n2 c2] := by
    have := ((((Bk.new ((w.alloc (.cells #[.bool s0, .slice A0 n0 c0] 24)).alloc (.cells #[.bool s1, .slice A1 n1 c1] 24)) 24 #[.bool s2, .slice A2 n2 c2]).alloc (.cells #[.bool s3, .slice A3 n3 c3] 24)).alloc (.cells #[.bool false, .slice none 0 0] 24)).alloc (.cells #[.bool false, .slice none 0 0] 24))
    rw [hwa1]; simpa using this
  have hk7 : Bk wa1 (w.heap.size + 1 + 1 + 1) 24 #[.bool s3, .slice A3 n3 c3] := by
    have := (((Bk.new (((w.alloc (.cells #[.bool s0, .slice A0 n0 c0] 24)).alloc (.cells #[.bool s1, .slice A1 n1 c1] 24)).alloc (.cells #[.bool s2, .slice A2 n2 c2] 24)) 24 #[.bool s3, .slice A3 n3 c3]).alloc (.cells #[.bool false, .slice none 0 0] 24)).alloc (.cells #[.bool false, .slice none 0 0] 24))
    rw [hwa1]; simpa using this
  have hk8 : Bk wa1 (w.heap.size + 1 + 1 + 1 + 1) 24 #[.bool false, .slice none 0 0] := by
    have := ((Bk.new ((((w.alloc (.cells #[.bool s0, .slice A0 n0 c0] 24)).alloc (.cells #[.bool s1, .slice A1 n1 c1] 24)).alloc (.cells #[.bool s2, .slice A2 n2 c2] 24)).alloc (.cells #[.bool s3, .slice A3 n3 c3] 24)) 24 #[.bool false, .slice none 0 0]).alloc (.cells #[.bool false, .slice none 0 0] 24))
    rw [hwa1]; simpa using this
  have hk9 : Bk wa1 (w.heap.size + 1 + 1 + 1 + 1 + 1) 24 #[.bool false, .slice none 0 0] := by
    have := (Bk.new (((((w.alloc (.cells #[.bool s0, .slice A0 n0 c0] 24)).alloc (.cells #[.bool s1, .slice A1 n1 c1] 24)).alloc (.cells #[.bool s2, .slice A2 n2 c2] 24)).alloc (.cells #[.bool s3, .slice A3 n3 c3] 24)).alloc (.cells #[.bool false, .slice none 0 0] 24)) 24 #[.bool false, .slice none 0 0])
    rw [hwa1]; simpa using this
  rw [← hwa1]
  clear hwa1
  refine (mulQ h0 h1 hz).mono ?_
  rintro e w2 ⟨v_3, rfl, h_3, hup⟩
  replace hk6 := hk6.up hup
  replace hk7 := hk7.up hup
  replace hk8 := hk8.up hup
  replace hk9 := hk9.up hup
  replace h2 := h2.up hup
  replace h3 := h3.up hup
  replace hupw := hupw.trans hup
  clear hup
  obtain ⟨s_3, A_3, n_3, c_3, rfl⟩ := h_3.agg
  have hk6c0 := hk6.cell (i := 0) rfl
  have hk6c1 := hk6.cell (i := 1) rfl
  have hk6l := hk6.lt
  have hk7c0 := hk7.cell (i := 0) rfl
  have hk7c1 := hk7.cell (i := 1) rfl
  have hk7l := hk7.lt
  have hk8c0 := hk8.cell (i := 0) rfl
  have hk8c1 := hk8.cell (i := 1) rfl
  have hk8l := hk8.lt
  have hk8f0 := hk8.frozen 0
  have hk8f1 := hk8.frozen 1
  go_wp2_with fail
  clear hk6c0 hk6c1 hk6l hk7c0 hk7c1 hk7l hk8c0 hk8c1 hk8l hk8f0 hk8f1
  obtain ⟨ws4, hws4⟩ : ∃ x, x = ((w2.setCell ⟨(w.heap.size + 1 + 1 + 1 + 1), 0, none⟩ (.bool s_3)).setCell ⟨(w.heap.size + 1 + 1 + 1 + 1), 1, none⟩ (.slice A_3 n_3 c_3)) := ⟨_, rfl⟩
  have h2' := h2.st2 hk8 (noU2 _ _ _ _) (.bool s_3) (.slice A_3 n_3 c_3)
  have h3' := h3.st2 hk8 (noU2 _ _ _ _) (.bool s_3) (.slice A_3 n_3 c_3)
  have h_3' := h_3.st2 hk8 (noU2 _ _ _ _) (.bool s_3) (.slice A_3 n_3 c_3)
  rw [← hws4] at h2'
  clear h2
  have h2 := h2'
  clear h2'
  rw [← hws4] at h3'
  clear h3
  have h3 := h3'
  clear h3'
  rw [← hws4] at h_3'
  clear h_3
  have h_3 := h_3'
  clear h_3'
  replace hk9 := hk9.far2 (g' := (w.heap.size + 1 + 1 + 1 + 1)) (by omega) (.bool s_3) (.slice A_3 n_3 c_3)
  rw [← hws4] at hk9
  replace hupw := hupw.two (g := (w.heap.size + 1 + 1 + 1 + 1)) (by omega) (.bool s_3) (.slice A_3 n_3 c_3)
  rw [← hws4] at hupw
  replace hk8 := hk8.two_bk (.bool s_3) (.slice A_3 n_3 c_3)
  rw [← hws4] at hk8
  rw [← hws4]
  clear hws4
  refine (mulQ h2 h3 hz2).mono ?_
  rintro e w5 ⟨v_6, rfl, h_6, hup⟩
  replace hk8 := hk8.up hup
  replace hk9 := hk9.up hup
  replace h_3 := h_3.up hup
  replace hupw := hupw.trans hup
  clear hup
  obtain ⟨s_6, A_6, n_6, c_6, rfl⟩ := h_6.agg
  have hk9c0 := hk9.cell (i := 0) rfl
  have hk9c1 := hk9.cell (i := 1) rfl
  have hk9l := hk9.lt
  have hk9f0 := hk9.frozen 0
  have hk9f1 := hk9.frozen 1
  go_wp2_with fail
  clear hk9c0 hk9c1 hk9l hk9f0 hk9f1
  obtain ⟨ws7, hws7⟩ : ∃ x, x = ((w5.setCell ⟨(w.heap.size + 1 + 1 + 1 + 1 + 1), 0, none⟩ (.bool s_6)).setCell ⟨(w.heap.size + 1 + 1 + 1 + 1 + 1), 1, none⟩ (.slice A_6 n_6 c_6)) := ⟨_, rfl⟩
  have h_3' := h_3.st2 hk9 (noU2 _ _ _ _) (.bool s_6) (.slice A_6 n_6 c_6)
  have h_6' := h_6.st2 hk9 (noU2 _ _ _ _) (.bool s_6) (.slice A_6 n_6 c_6)
  rw [← hws7] at h_3'
  clear h_3
  have h_3 := h_3'
  clear h_3'
  rw [← hws7] at h_6'
  clear h_6
  have h_6 := h_6'
  clear h_6'
  replace hk8 := hk8.far2 (g' := (w.heap.size + 1 + 1 + 1 + 1 + 1)) (by omega) (.bool s_6) (.slice A_6 n_6 c_6)
  rw [← hws7] at hk8
  replace hupw := hupw.two (g := (w.heap.size + 1 + 1 + 1 + 1 + 1)) (by omega) (.bool s_6) (.slice A_6 n_6 c_6)
  rw [← hws7] at hupw
  replace hk9 := hk9.two_bk (.bool s_6) (.slice A_6 n_6 c_6)
  rw [← hws7] at hk9
  rw [← hws7]
  clear hws7
  have hk8c0 := hk8.cell (i := 0) rfl
  have hk8c1 := hk8.cell (i := 1) rfl
  have hk8l := hk8.lt
  have hk9c0 := hk9.cell (i := 0) rfl
  have hk9c1 := hk9.cell (i := 1) rfl
  have hk9l := hk9.lt
  have hk8f0 := hk8.frozen 0
  have hk8f1 := hk8.frozen 1
  have hk9f0 := hk9.frozen 0
  have hk9f1 := hk9.frozen 1
  go_region
  clear hk8c0 hk8c1 hk8l hk9c0 hk9c1 hk9l hk8f0 hk8f1 hk9f0 hk9f1
  obtain ⟨ws8, hws8⟩ : ∃ x, x = ((ws7.setCell ⟨(w.heap.size + 1 + 1 + 1 + 1), 0, none⟩ (.bool s_3)).setCell ⟨(w.heap.size + 1 + 1 + 1 + 1), 1, none⟩ (.slice A_3 n_3 c_3)) := ⟨_, rfl⟩
  have h_3' := h_3.st2 hk8 (noU2 _ _ _ _) (.bool s_3) (.slice A_3 n_3 c_3)
  have h_6' := h_6.st2 hk8 (noU2 _ _ _ _) (.bool s_3) (.slice A_3 n_3 c_3)
  rw [← hws8] at h_3'
  clear h_3
  have h_3 := h_3'
  clear h_3'
  rw [← hws8] at h_6'
  clear h_6
  have h_6 := h_6'
  clear h_6'
  replace hk9 := hk9.far2 (g' := (w.heap.size + 1 + 1 + 1 + 1)) (by omega) (.bool s_3) (.slice A_3 n_3 c_3)
  rw [← hws8] at hk9
  replace hupw := hupw.two (g := (w.heap.size + 1 + 1 + 1 + 1)) (by omega) (.bool s_3) (.slice A_3 n_3 c_3)
  rw [← hws8] at hupw
  replace hk8 := hk8.two_bk (.bool s_3) (.slice A_3 n_3 c_3)
  rw [← hws8] at hk8
  rw [← hws8]
  clear hws8
  obtain ⟨ws9, hws9⟩ : ∃ x, x = ((ws8.setCell ⟨(w.heap.size + 1 + 1 + 1 + 1 + 1), 0, none⟩ (.bool s_6)).setCell ⟨(w.heap.size + 1 + 1 + 1 + 1 + 1), 1, none⟩ (.slice A_6 n_6 c_6)) := ⟨_, rfl⟩
  have h_3' := h_3.st2 hk9 (noU2 _ _ _ _) (.bool s_6) (.slice A_6 n_6 c_6)
  have h_6' := h_6.st2 hk9 (noU2 _ _ _ _) (.bool s_6) (.slice A_6 n_6 c_6)
  rw [← hws9] at h_3'
  clear h_3
  have h_3 := h_3'
  clear h_3'
  rw [← hws9] at h_6'
  clear h_6
  have h_6 := h_6'
  clear h_6'
  replace hk8 := hk8.far2 (g' := (w.heap.size + 1 + 1 + 1 + 1 + 1)) (by omega) (.bool s_6) (.slice A_6 n_6 c_6)
  rw [← hws9] at hk8
  replace hupw := hupw.two (g := (w.heap.size + 1 + 1 + 1 + 1 + 1)) (by omega) (.bool s_6) (.slice A_6 n_6 c_6)
  rw [← hws9] at hupw
  replace hk9 := hk9.two_bk (.bool s_6) (.slice A_6 n_6 c_6)
  rw [← hws9] at hk9
  rw [← hws9]
  clear hws9
  obtain ⟨wr10, hwr10⟩ : ∃ x, x = ws9.drew := ⟨_, rfl⟩
  have hup : Up ws9 wr10 := by rw [hwr10]; exact (Up.refl ws9).drew
  replace hk8 := hk8.up hup
  replace hk9 := hk9.up hup
  replace h_3 := h_3.up hup
  replace h_6 := h_6.up hup
  replace hupw := hupw.trans hup
  clear hup
  rw [← hwr10]
  clear hwr10
  go_wp2_with fail
  have hk8c0 := hk8.cell (i := 0) rfl
  have hk8c1 := hk8.cell (i := 1) rfl
  have hk9c0 := hk9.cell (i := 0) rfl
  have hk9c1 := hk9.cell (i := 1) rfl
  exact bodyPost_ret (v := .tuple #[.agg #[.bool s_3, .slice A_3 n_3 c_3], .agg #[.bool s_6, .slice A_6 n_6 c_6], .int .i64 0]) (by simp [results, Tryz.results59, go_sem, hk8c0, hk8c1, hk9c0, hk9c1]) rfl ⟨_, _, rfl, h_3, h_6, hupw⟩
set_option maxRecDepth 100000 in
set_option maxHeartbeats 4000000 in
theorem oneY {x : Int} (v0 : Value) (w : World) (h0 : Iz w v0 (x)) (hk : cmpZ x 1 = 0) :
    Calls Tryz.prog 55 #[v0] w (PB w true) := by
  obtain ⟨s0, A0, n0, c0, rfl⟩ := h0.agg
  have hupw : Up w w := Up.refl w
  go_enter Tryz.func55, Tryz.ntmps55
  go_wp2_with fail
  obtain ⟨wa1, hwa1⟩ : ∃ x, x = (w.alloc (.cells #[.bool s0, .slice A0 n0 c0] 24)) := ⟨_, rfl⟩
  have hup : Up w wa1 := by rw [hwa1]; exact ((Up.refl w).alloc _)
  have hzwa1 : w.heap.size ≤ w.heap.size := hupw.size
  replace h0 := h0.up hup
  replace hupw := hupw.trans hup
  clear hup
  have hk1 : Bk wa1 (w.heap.size) 24 #[.bool s0, .slice A0 n0 c0] := by
    have := (Bk.new w 24 #[.bool s0, .slice A0 n0 c0])
    rw [hwa1]; simpa using this
  rw [← hwa1]
  clear hwa1
  have kk1_0 : wa1.cell? ⟨w.heap.size, 0, none⟩ = some (.bool s0) := hk1.cell (i := 0) rfl
  have kk1_1 : wa1.cell? ⟨w.heap.size, 1, none⟩ = some (.slice A0 n0 c0) := hk1.cell (i := 1) rfl
  have hupA : Up wa1 wa1.drew := (Up.refl wa1).drew
  go_region_held3 (fun w' => w'.cell? ⟨w.heap.size, 0, none⟩ = some (.bool s0) ∧ w'.cell? ⟨w.heap.size, 1, none⟩ = some (.slice A0 n0 c0))
    (exact ⟨hupA.keep kk1_0, hupA.keep kk1_1⟩)
    (first | (go_at_call 51; refine (ofQ 1 (by decide) (by decide)).mono ?_; rintro e w2 ⟨v_3, rfl, h_3, hupx⟩; obtain ⟨s_3, A_3, n_3, c_3, rfl⟩ := h_3.agg; replace hupA := hupA.trans hupx) | (go_at_call 60; refine (cmpQ 0 (h0.up hupA) h_3 hk).mono ?_; rintro e w4 ⟨rfl, hupx⟩; replace hupA := hupA.trans hupx))
  clear kk1_0 kk1_1
  replace hupw := hupw.trans hupA
  clear hupA
  go_wp2_with fail
  go_ret
  exact ⟨rfl, hupw⟩
set_option maxRecDepth 100000 in
set_option maxHeartbeats 4000000 in
theorem oneN {x : Int} (v0 : Value) (w : World) (h0 : Iz w v0 (x)) (hk : cmpZ x 1 = 1) :
    Calls Tryz.prog 55 #[v0] w (PB w false) := by
  obtain ⟨s0, A0, n0, c0, rfl⟩ := h0.agg
  have hupw : Up w w := Up.refl w
  go_enter Tryz.func55, Tryz.ntmps55
  go_wp2_with fail
  obtain ⟨wa1, hwa1⟩ : ∃ x, x = (w.alloc (.cells #[.bool s0, .slice A0 n0 c0] 24)) := ⟨_, rfl⟩
  have hup : Up w wa1 := by rw [hwa1]; exact ((Up.refl w).alloc _)
  have hzwa1 : w.heap.size ≤ w.heap.size := hupw.size
  replace h0 := h0.up hup
  replace hupw := hupw.trans hup
  clear hup
  have hk1 : Bk wa1 (w.heap.size) 24 #[.bool s0, .slice A0 n0 c0] := by
    have := (Bk.new w 24 #[.bool s0, .slice A0 n0 c0])
    rw [hwa1]; simpa using this
  rw [← hwa1]
  clear hwa1
  have kk1_0 : wa1.cell? ⟨w.heap.size, 0, none⟩ = some (.bool s0) := hk1.cell (i := 0) rfl
  have kk1_1 : wa1.cell? ⟨w.heap.size, 1, none⟩ = some (.slice A0 n0 c0) := hk1.cell (i := 1) rfl
  have hupA : Up wa1 wa1.drew := (Up.refl wa1).drew
  go_region_held3 (fun w' => w'.cell? ⟨w.heap.size, 0, none⟩ = some (.bool s0) ∧ w'.cell? ⟨w.heap.size, 1, none⟩ = some (.slice A0 n0 c0))
    (exact ⟨hupA.keep kk1_0, hupA.keep kk1_1⟩)
    (first | (go_at_call 51; refine (ofQ 1 (by decide) (by decide)).mono ?_; rintro e w2 ⟨v_3, rfl, h_3, hupx⟩; obtain ⟨s_3, A_3, n_3, c_3, rfl⟩ := h_3.agg; replace hupA := hupA.trans hupx) | (go_at_call 60; refine (cmpQ 1 (h0.up hupA) h_3 hk).mono ?_; rintro e w4 ⟨rfl, hupx⟩; replace hupA := hupA.trans hupx))
  clear kk1_0 kk1_1
  replace hupw := hupw.trans hupA
  clear hupA
  go_wp2_with fail
  go_ret
  exact ⟨rfl, hupw⟩
set_option maxRecDepth 100000 in
set_option maxHeartbeats 4000000 in
theorem oneM {x : Int} (v0 : Value) (w : World) (h0 : Iz w v0 (x)) (hk : cmpZ x 1 = (-1)) :
    Calls Tryz.prog 55 #[v0] w (PB w false) := by
  obtain ⟨s0, A0, n0, c0, rfl⟩ := h0.agg
  have hupw : Up w w := Up.refl w
  go_enter Tryz.func55, Tryz.ntmps55
  go_wp2_with fail
  obtain ⟨wa1, hwa1⟩ : ∃ x, x = (w.alloc (.cells #[.bool s0, .slice A0 n0 c0] 24)) := ⟨_, rfl⟩
  have hup : Up w wa1 := by rw [hwa1]; exact ((Up.refl w).alloc _)
  have hzwa1 : w.heap.size ≤ w.heap.size := hupw.size
  replace h0 := h0.up hup
  replace hupw := hupw.trans hup
  clear hup
  have hk1 : Bk wa1 (w.heap.size) 24 #[.bool s0, .slice A0 n0 c0] := by
    have := (Bk.new w 24 #[.bool s0, .slice A0 n0 c0])
    rw [hwa1]; simpa using this
  rw [← hwa1]
  clear hwa1
  have kk1_0 : wa1.cell? ⟨w.heap.size, 0, none⟩ = some (.bool s0) := hk1.cell (i := 0) rfl
  have kk1_1 : wa1.cell? ⟨w.heap.size, 1, none⟩ = some (.slice A0 n0 c0) := hk1.cell (i := 1) rfl
  have hupA : Up wa1 wa1.drew := (Up.refl wa1).drew
  go_region_held3 (fun w' => w'.cell? ⟨w.heap.size, 0, none⟩ = some (.bool s0) ∧ w'.cell? ⟨w.heap.size, 1, none⟩ = some (.slice A0 n0 c0))
    (exact ⟨hupA.keep kk1_0, hupA.keep kk1_1⟩)
    (first | (go_at_call 51; refine (ofQ 1 (by decide) (by decide)).mono ?_; rintro e w2 ⟨v_3, rfl, h_3, hupx⟩; obtain ⟨s_3, A_3, n_3, c_3, rfl⟩ := h_3.agg; replace hupA := hupA.trans hupx) | (go_at_call 60; refine (cmpQ (-1) (h0.up hupA) h_3 hk).mono ?_; rintro e w4 ⟨rfl, hupx⟩; replace hupA := hupA.trans hupx))
  clear kk1_0 kk1_1
  replace hupw := hupw.trans hupA
  clear hupA
  go_wp2_with fail
  go_ret
  exact ⟨rfl, hupw⟩
theorem cmpZ_eq (x : Int) : cmpZ x x = 0 := by unfold cmpZ; (repeat' split) <;> omega
theorem oneQ {w : World} {v : Value} {x : Int} (h : Iz w v x) : Calls Tryz.prog 55 #[v] w (PB w (decide (x = 1))) := by
  rcases Int.lt_trichotomy x 1 with hx | hx | hx
  · rw [decide_eq_false (by omega)]; exact oneM v w h (by unfold cmpZ; rw [if_pos hx])
  · rw [decide_eq_true hx]; exact oneY v w h (by rw [hx]; exact cmpZ_eq 1)
  · rw [decide_eq_false (by omega)]; exact oneN v w h (by unfold cmpZ; rw [if_neg (by omega), if_pos hx])
theorem oneT {w : World} {v : Value} {x : Int} (h : Iz w v x) (hx : x = 1) : Calls Tryz.prog 55 #[v] w (PB w true) := by
  have := oneQ h; rwa [decide_eq_true hx] at this
theorem oneF {w : World} {v : Value} {x : Int} (h : Iz w v x) (hx : x ≠ 1) : Calls Tryz.prog 55 #[v] w (PB w false) := by
  have := oneQ h; rwa [decide_eq_false hx] at this

end Go.Proofs.YtldifgfpecicnaaGreatDoor
