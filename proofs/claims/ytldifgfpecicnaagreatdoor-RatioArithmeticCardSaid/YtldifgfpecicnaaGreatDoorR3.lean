/- Fractions: Valid, Make and Of of the program. -/
import Derived.Test.YtldifgfpecicnaaGreatDoorRRaw
namespace Go.Proofs.YtldifgfpecicnaaGreatDoor
open Go.RowKit

set_option maxRecDepth 100000 in
set_option maxHeartbeats 4000000 in
theorem valid_b (v0 : Value) (w : World) (f0 : Gz w v0 (fun w v => Az w v) (fun w v => Bz w v)) :
    Calls Tryz.prog 19 #[v0] w (PB w false) := by
  obtain ⟨s0, A0, n0, c0, t0, B0, m0, d0, rfl, h0, k0⟩ := f0
  replace h0 : Az w (.agg #[.bool s0, .slice A0 n0 c0]) := h0
  replace k0 : Bz w (.agg #[.bool t0, .slice B0 m0 d0]) := k0
  have hupw : Up w w := Up.refl w
  go_enter Tryz.func19, Tryz.ntmps19
  go_wp2_with fail
  obtain ⟨wa1, hwa1⟩ : ∃ x, x = (w.alloc (.cells #[.bool s0, .slice A0 n0 c0, .bool t0, .slice B0 m0 d0] 29)) := ⟨_, rfl⟩
  have hup : Up w wa1 := by rw [hwa1]; exact ((Up.refl w).alloc _)
  have hzwa1 : w.heap.size ≤ w.heap.size := hupw.size
  replace k0 := k0.up hup
  replace hupw := hupw.trans hup
  clear hup
  have hk1 : Bk wa1 (w.heap.size) 29 #[.bool s0, .slice A0 n0 c0, .bool t0, .slice B0 m0 d0] := by
    have := (Bk.new w 29 #[.bool s0, .slice A0 n0 c0, .bool t0, .slice B0 m0 d0])
    rw [hwa1]; simpa using this
  rw [← hwa1]
  clear hwa1
  refine (signB k0).mono ?_
  rintro e w2 ⟨rfl, hup⟩
  replace hupw := hupw.trans hup
  clear hup
  go_wp2_with fail
  go_ret
  exact ⟨rfl, hupw⟩
set_option maxRecDepth 100000 in
set_option maxHeartbeats 4000000 in
theorem valid_0 {q : Int} (v0 : Value) (w : World) (f0 : Gz w v0 (fun w v => Az w v) (fun w v => Iz w v q)) (hq : q = 0) :
    Calls Tryz.prog 19 #[v0] w (PB w false) := by
  obtain ⟨s0, A0, n0, c0, t0, B0, m0, d0, rfl, h0, k0⟩ := f0
  replace h0 : Az w (.agg #[.bool s0, .slice A0 n0 c0]) := h0
  replace k0 : Iz w (.agg #[.bool t0, .slice B0 m0 d0]) q := k0
  have hupw : Up w w := Up.refl w
  go_enter Tryz.func19, Tryz.ntmps19
  go_wp2_with fail
  obtain ⟨wa1, hwa1⟩ : ∃ x, x = (w.alloc (.cells #[.bool s0, .slice A0 n0 c0, .bool t0, .slice B0 m0 d0] 29)) := ⟨_, rfl⟩
  have hup : Up w wa1 := by rw [hwa1]; exact ((Up.refl w).alloc _)
  have hzwa1 : w.heap.size ≤ w.heap.size := hupw.size
  replace k0 := k0.up hup
  replace hupw := hupw.trans hup
  clear hup
  have hk1 : Bk wa1 (w.heap.size) 29 #[.bool s0, .slice A0 n0 c0, .bool t0, .slice B0 m0 d0] := by
    have := (Bk.new w 29 #[.bool s0, .slice A0 n0 c0, .bool t0, .slice B0 m0 d0])
    rw [hwa1]; simpa using this
  rw [← hwa1]
  clear hwa1
  refine (signQ 0 k0 (Int.sign_eq_zero_iff_zero.2 hq)).mono ?_
  rintro e w2 ⟨rfl, hup⟩
  replace hupw := hupw.trans hup
  clear hup
  go_wp2_with fail
  go_ret
  exact ⟨rfl, hupw⟩
set_option maxRecDepth 100000 in
set_option maxHeartbeats 4000000 in
theorem valid_m {q : Int} (v0 : Value) (w : World) (f0 : Gz w v0 (fun w v => Az w v) (fun w v => Iz w v q)) (hq : q < 0) :
    Calls Tryz.prog 19 #[v0] w (PB w false) := by
  obtain ⟨s0, A0, n0, c0, t0, B0, m0, d0, rfl, h0, k0⟩ := f0
  replace h0 : Az w (.agg #[.bool s0, .slice A0 n0 c0]) := h0
  replace k0 : Iz w (.agg #[.bool t0, .slice B0 m0 d0]) q := k0
  have hupw : Up w w := Up.refl w
  go_enter Tryz.func19, Tryz.ntmps19
  go_wp2_with fail
  obtain ⟨wa1, hwa1⟩ : ∃ x, x = (w.alloc (.cells #[.bool s0, .slice A0 n0 c0, .bool t0, .slice B0 m0 d0] 29)) := ⟨_, rfl⟩
  have hup : Up w wa1 := by rw [hwa1]; exact ((Up.refl w).alloc _)
  have hzwa1 : w.heap.size ≤ w.heap.size := hupw.size
  replace k0 := k0.up hup
  replace hupw := hupw.trans hup
  clear hup
  have hk1 : Bk wa1 (w.heap.size) 29 #[.bool s0, .slice A0 n0 c0, .bool t0, .slice B0 m0 d0] := by
    have := (Bk.new w 29 #[.bool s0, .slice A0 n0 c0, .bool t0, .slice B0 m0 d0])
    rw [hwa1]; simpa using this
  rw [← hwa1]
  clear hwa1
  refine (signQ (-1) k0 (Int.sign_eq_neg_one_of_neg hq)).mono ?_
  rintro e w2 ⟨rfl, hup⟩
  replace hupw := hupw.trans hup
  clear hup
  go_wp2_with fail
  go_ret
  exact ⟨rfl, hupw⟩
set_option maxRecDepth 100000 in
set_option maxHeartbeats 4000000 in
theorem valid_c {q : Int} (v0 : Value) (w : World) (f0 : Gz w v0 (fun w v => Bz w v) (fun w v => Iz w v q)) (hq : 0 < q) :
    Calls Tryz.prog 19 #[v0] w (PB w false) := by
  obtain ⟨s0, A0, n0, c0, t0, B0, m0, d0, rfl, h0, k0⟩ := f0
  replace h0 : Bz w (.agg #[.bool s0, .slice A0 n0 c0]) := h0
  replace k0 : Iz w (.agg #[.bool t0, .slice B0 m0 d0]) q := k0
  have hupw : Up w w := Up.refl w
  go_enter Tryz.func19, Tryz.ntmps19
  go_wp2_with fail
  obtain ⟨wa1, hwa1⟩ : ∃ x, x = (w.alloc (.cells #[.bool s0, .slice A0 n0 c0, .bool t0, .slice B0 m0 d0] 29)) := ⟨_, rfl⟩
  have hup : Up w wa1 := by rw [hwa1]; exact ((Up.refl w).alloc _)
  have hzwa1 : w.heap.size ≤ w.heap.size := hupw.size
  replace h0 := h0.up hup
  replace k0 := k0.up hup
  replace hupw := hupw.trans hup
  clear hup
  have hk1 : Bk wa1 (w.heap.size) 29 #[.bool s0, .slice A0 n0 c0, .bool t0, .slice B0 m0 d0] := by
    have := (Bk.new w 29 #[.bool s0, .slice A0 n0 c0, .bool t0, .slice B0 m0 d0])
    rw [hwa1]; simpa using this
  rw [← hwa1]
  clear hwa1
  refine (signQ 1 k0 (Int.sign_eq_one_of_pos hq)).mono ?_
  rintro e w2 ⟨rfl, hup⟩
  replace hk1 := hk1.up hup
  replace h0 := h0.up hup
  replace k0 := k0.up hup
  replace hupw := hupw.trans hup
  clear hup
  have hk1c0 := hk1.cell (i := 0) rfl
  have hk1c1 := hk1.cell (i := 1) rfl
  have hk1c2 := hk1.cell (i := 2) rfl
  have hk1c3 := hk1.cell (i := 3) rfl
  have hk1l := hk1.lt
  go_wp2_with fail
  clear hk1c0 hk1c1 hk1c2 hk1c3 hk1l
  refine (gcdB h0 k0.raw).mono ?_
  rintro e w3 ⟨v_4, rfl, h_4, hup⟩
  replace hk1 := hk1.up hup
  replace hupw := hupw.trans hup
  clear hup
  obtain ⟨s_4, A_4, n_4, c_4, rfl⟩ := h_4.agg
  go_wp2_with fail
  obtain ⟨wa5, hwa5⟩ : ∃ x, x = (w3.alloc (.cells #[.bool s_4, .slice A_4 n_4 c_4] 24)) := ⟨_, rfl⟩
  have hup : Up w3 wa5 := by rw [hwa5]; exact ((Up.refl w3).alloc _)
  have howa5 : w.heap.size < w3.heap.size := hk1.lt
  have hzwa5 : w.heap.size ≤ w3.heap.size := hupw.size
  replace hupw := hupw.trans hup
  clear hup
  have hk3 : Bk wa5 (w3.heap.size) 24 #[.bool s_4, .slice A_4 n_4 c_4] := by
    have := (Bk.new w3 24 #[.bool s_4, .slice A_4 n_4 c_4])
    rw [hwa5]; simpa using this
  rw [← hwa5]
  clear hwa5
  go_ret
  exact ⟨rfl, hupw⟩
set_option maxRecDepth 100000 in
set_option maxHeartbeats 4000000 in
theorem valid_y {p q g : Int} (v0 : Value) (w : World) (f0 : Gz w v0 (fun w v => Iz w v p) (fun w v => Iz w v q)) (hq : 0 < q) (Hg : Hid (g = (Nat.gcd p.natAbs q.natAbs : Nat))) (hg : g = 1) :
    Calls Tryz.prog 19 #[v0] w (PB w true) := by
  obtain ⟨s0, A0, n0, c0, t0, B0, m0, d0, rfl, h0, k0⟩ := f0
  replace h0 : Iz w (.agg #[.bool s0, .slice A0 n0 c0]) p := h0
  replace k0 : Iz w (.agg #[.bool t0, .slice B0 m0 d0]) q := k0
  have hupw : Up w w := Up.refl w
  go_enter Tryz.func19, Tryz.ntmps19
  go_wp2_with fail
  obtain ⟨wa1, hwa1⟩ : ∃ x, x = (w.alloc (.cells #[.bool s0, .slice A0 n0 c0, .bool t0, .slice B0 m0 d0] 29)) := ⟨_, rfl⟩
  have hup : Up w wa1 := by rw [hwa1]; exact ((Up.refl w).alloc _)
  have hzwa1 : w.heap.size ≤ w.heap.size := hupw.size
  replace h0 := h0.up hup
  replace k0 := k0.up hup
  replace hupw := hupw.trans hup
  clear hup
  have hk1 : Bk wa1 (w.heap.size) 29 #[.bool s0, .slice A0 n0 c0, .bool t0, .slice B0 m0 d0] := by
    have := (Bk.new w 29 #[.bool s0, .slice A0 n0 c0, .bool t0, .slice B0 m0 d0])
    rw [hwa1]; simpa using this
  rw [← hwa1]
  clear hwa1
  refine (signQ 1 k0 (Int.sign_eq_one_of_pos hq)).mono ?_
  rintro e w2 ⟨rfl, hup⟩
  replace hk1 := hk1.up hup
  replace h0 := h0.up hup
  replace k0 := k0.up hup
  replace hupw := hupw.trans hup
  clear hup
  have hk1c0 := hk1.cell (i := 0) rfl
  have hk1c1 := hk1.cell (i := 1) rfl
  have hk1c2 := hk1.cell (i := 2) rfl
  have hk1c3 := hk1.cell (i := 3) rfl
  have hk1l := hk1.lt
  go_wp2_with fail
  clear hk1c0 hk1c1 hk1c2 hk1c3 hk1l
  refine (gcdG Hg h0 k0).mono ?_
  rintro e w3 ⟨v_4, rfl, h_4, hup⟩
  replace hk1 := hk1.up hup
  replace hupw := hupw.trans hup
  clear hup
  obtain ⟨s_4, A_4, n_4, c_4, rfl⟩ := h_4.agg
  go_wp2_with fail
  obtain ⟨wa5, hwa5⟩ : ∃ x, x = (w3.alloc (.cells #[.bool s_4, .slice A_4 n_4 c_4] 24)) := ⟨_, rfl⟩
  have hup : Up w3 wa5 := by rw [hwa5]; exact ((Up.refl w3).alloc _)
  have howa5 : w.heap.size < w3.heap.size := hk1.lt
  have hzwa5 : w.heap.size ≤ w3.heap.size := hupw.size
  replace h_4 := h_4.up hup
  replace hupw := hupw.trans hup
  clear hup
  have hk3 : Bk wa5 (w3.heap.size) 24 #[.bool s_4, .slice A_4 n_4 c_4] := by
    have := (Bk.new w3 24 #[.bool s_4, .slice A_4 n_4 c_4])
    rw [hwa5]; simpa using this
  rw [← hwa5]
  clear hwa5
  refine (oneT h_4 hg).mono ?_
  rintro e w6 ⟨rfl, hup⟩
  replace hupw := hupw.trans hup
  clear hup
  go_wp2_with fail
  go_ret
  exact ⟨rfl, hupw⟩
set_option maxRecDepth 100000 in
set_option maxHeartbeats 4000000 in
theorem valid_n {p q g : Int} (v0 : Value) (w : World) (f0 : Gz w v0 (fun w v => Iz w v p) (fun w v => Iz w v q)) (hq : 0 < q) (Hg : Hid (g = (Nat.gcd p.natAbs q.natAbs : Nat))) (hg : g ≠ 1) :
    Calls Tryz.prog 19 #[v0] w (PB w false) := by
  obtain ⟨s0, A0, n0, c0, t0, B0, m0, d0, rfl, h0, k0⟩ := f0
  replace h0 : Iz w (.agg #[.bool s0, .slice A0 n0 c0]) p := h0
  replace k0 : Iz w (.agg #[.bool t0, .slice B0 m0 d0]) q := k0
  have hupw : Up w w := Up.refl w
  go_enter Tryz.func19, Tryz.ntmps19
  go_wp2_with fail
  obtain ⟨wa1, hwa1⟩ : ∃ x, x = (w.alloc (.cells #[.bool s0, .slice A0 n0 c0, .bool t0, .slice B0 m0 d0] 29)) := ⟨_, rfl⟩
  have hup : Up w wa1 := by rw [hwa1]; exact ((Up.refl w).alloc _)
  have hzwa1 : w.heap.size ≤ w.heap.size := hupw.size
  replace h0 := h0.up hup
  replace k0 := k0.up hup
  replace hupw := hupw.trans hup
  clear hup
  have hk1 : Bk wa1 (w.heap.size) 29 #[.bool s0, .slice A0 n0 c0, .bool t0, .slice B0 m0 d0] := by
    have := (Bk.new w 29 #[.bool s0, .slice A0 n0 c0, .bool t0, .slice B0 m0 d0])
    rw [hwa1]; simpa using this
  rw [← hwa1]
  clear hwa1
  refine (signQ 1 k0 (Int.sign_eq_one_of_pos hq)).mono ?_
  rintro e w2 ⟨rfl, hup⟩
  replace hk1 := hk1.up hup
  replace h0 := h0.up hup
  replace k0 := k0.up hup
  replace hupw := hupw.trans hup
  clear hup
  have hk1c0 := hk1.cell (i := 0) rfl
  have hk1c1 := hk1.cell (i := 1) rfl
  have hk1c2 := hk1.cell (i := 2) rfl
  have hk1c3 := hk1.cell (i := 3) rfl
  have hk1l := hk1.lt
  go_wp2_with fail
  clear hk1c0 hk1c1 hk1c2 hk1c3 hk1l
  refine (gcdG Hg h0 k0).mono ?_
  rintro e w3 ⟨v_4, rfl, h_4, hup⟩
  replace hk1 := hk1.up hup
  replace hupw := hupw.trans hup
  clear hup
  obtain ⟨s_4, A_4, n_4, c_4, rfl⟩ := h_4.agg
  go_wp2_with fail
  obtain ⟨wa5, hwa5⟩ : ∃ x, x = (w3.alloc (.cells #[.bool s_4, .slice A_4 n_4 c_4] 24)) := ⟨_, rfl⟩
  have hup : Up w3 wa5 := by rw [hwa5]; exact ((Up.refl w3).alloc _)
  have howa5 : w.heap.size < w3.heap.size := hk1.lt
  have hzwa5 : w.heap.size ≤ w3.heap.size := hupw.size
  replace h_4 := h_4.up hup
  replace hupw := hupw.trans hup
  clear hup
  have hk3 : Bk wa5 (w3.heap.size) 24 #[.bool s_4, .slice A_4 n_4 c_4] := by
    have := (Bk.new w3 24 #[.bool s_4, .slice A_4 n_4 c_4])
    rw [hwa5]; simpa using this
  rw [← hwa5]
  clear hwa5
  refine (oneF h_4 hg).mono ?_
  rintro e w6 ⟨rfl, hup⟩
  replace hupw := hupw.trans hup
  clear hup
  go_wp2_with fail
  go_ret
  exact ⟨rfl, hupw⟩
set_option maxRecDepth 100000 in
set_option maxHeartbeats 4000000 in
theorem rvalid_a (v0 : Value) (w : World) (f0 : Gz w v0 (fun w v => Bz w v) (fun w v => Az w v)) :
    Calls Tryz.prog 21 #[v0] w (PB w false) := by
  obtain ⟨s0, A0, n0, c0, t0, B0, m0, d0, rfl, h0, k0⟩ := f0
  replace h0 : Bz w (.agg #[.bool s0, .slice A0 n0 c0]) := h0
  replace k0 : Az w (.agg #[.bool t0, .slice B0 m0 d0]) := k0
  have hupw : Up w w := Up.refl w
  go_enter Tryz.func21, Tryz.ntmps21
  go_wp2_with fail
  obtain ⟨wa1, hwa1⟩ : ∃ x, x = (w.alloc (.cells #[.bool s0, .slice A0 n0 c0, .bool t0, .slice B0 m0 d0] 29)) := ⟨_, rfl⟩
  have hup : Up w wa1 := by rw [hwa1]; exact ((Up.refl w).alloc _)
  have hzwa1 : w.heap.size ≤ w.heap.size := hupw.size
  replace h0 := h0.up hup
  replace hupw := hupw.trans hup
  clear hup
  have hk1 : Bk wa1 (w.heap.size) 29 #[.bool s0, .slice A0 n0 c0, .bool t0, .slice B0 m0 d0] := by
    have := (Bk.new w 29 #[.bool s0, .slice A0 n0 c0, .bool t0, .slice B0 m0 d0])
    rw [hwa1]; simpa using this
  rw [← hwa1]
  clear hwa1
  refine (rvalidB h0).mono ?_
  rintro e w2 ⟨rfl, hup⟩
  replace hupw := hupw.trans hup
  clear hup
  go_wp2_with fail
  go_ret
  exact ⟨rfl, hupw⟩
set_option maxRecDepth 100000 in
set_option maxHeartbeats 4000000 in
theorem rvalid_b {p : Int} (v0 : Value) (w : World) (f0 : Gz w v0 (fun w v => Iz w v p) (fun w v => Bz w v)) :
    Calls Tryz.prog 21 #[v0] w (PB w false) := by
  obtain ⟨s0, A0, n0, c0, t0, B0, m0, d0, rfl, h0, k0⟩ := f0
  replace h0 : Iz w (.agg #[.bool s0, .slice A0 n0 c0]) p := h0
  replace k0 : Bz w (.agg #[.bool t0, .slice B0 m0 d0]) := k0
  have hupw : Up w w := Up.refl w
  go_enter Tryz.func21, Tryz.ntmps21
  go_wp2_with fail
  obtain ⟨wa1, hwa1⟩ : ∃ x, x = (w.alloc (.cells #[.bool s0, .slice A0 n0 c0, .bool t0, .slice B0 m0 d0] 29)) := ⟨_, rfl⟩
  have hup : Up w wa1 := by rw [hwa1]; exact ((Up.refl w).alloc _)
  have hzwa1 : w.heap.size ≤ w.heap.size := hupw.size
  replace h0 := h0.up hup
  replace k0 := k0.up hup
  replace hupw := hupw.trans hup
  clear hup
  have hk1 : Bk wa1 (w.heap.size) 29 #[.bool s0, .slice A0 n0 c0, .bool t0, .slice B0 m0 d0] := by
    have := (Bk.new w 29 #[.bool s0, .slice A0 n0 c0, .bool t0, .slice B0 m0 d0])
    rw [hwa1]; simpa using this
  rw [← hwa1]
  clear hwa1
  refine (rvalidQ h0).mono ?_
  rintro e w2 ⟨rfl, hup⟩
  replace hk1 := hk1.up hup
  replace k0 := k0.up hup
  replace hupw := hupw.trans hup
  clear hup
  have hk1c0 := hk1.cell (i := 0) rfl
  have hk1c1 := hk1.cell (i := 1) rfl
  have hk1c2 := hk1.cell (i := 2) rfl
  have hk1c3 := hk1.cell (i := 3) rfl
  have hk1l := hk1.lt
  go_wp2_with fail
  clear hk1c0 hk1c1 hk1c2 hk1c3 hk1l
  refine (rvalidB k0).mono ?_
  rintro e w3 ⟨rfl, hup⟩
  replace hupw := hupw.trans hup
  clear hup
  go_wp2_with fail
  go_ret
  exact ⟨rfl, hupw⟩
set_option maxRecDepth 100000 in
set_option maxHeartbeats 4000000 in
theorem rvalid_0 {p q : Int} (v0 : Value) (w : World) (f0 : Gz w v0 (fun w v => Iz w v p) (fun w v => Iz w v q)) (hq : q = 0) :
    Calls Tryz.prog 21 #[v0] w (PB w false) := by
  obtain ⟨s0, A0, n0, c0, t0, B0, m0, d0, rfl, h0, k0⟩ := f0
  replace h0 : Iz w (.agg #[.bool s0, .slice A0 n0 c0]) p := h0
  replace k0 : Iz w (.agg #[.bool t0, .slice B0 m0 d0]) q := k0
  have hupw : Up w w := Up.refl w
  go_enter Tryz.func21, Tryz.ntmps21
  go_wp2_with fail
  obtain ⟨wa1, hwa1⟩ : ∃ x, x = (w.alloc (.cells #[.bool s0, .slice A0 n0 c0, .bool t0, .slice B0 m0 d0] 29)) := ⟨_, rfl⟩
  have hup : Up w wa1 := by rw [hwa1]; exact ((Up.refl w).alloc _)
  have hzwa1 : w.heap.size ≤ w.heap.size := hupw.size
  replace h0 := h0.up hup
  replace k0 := k0.up hup
  replace hupw := hupw.trans hup
  clear hup
  have hk1 : Bk wa1 (w.heap.size) 29 #[.bool s0, .slice A0 n0 c0, .bool t0, .slice B0 m0 d0] := by
    have := (Bk.new w 29 #[.bool s0, .slice A0 n0 c0, .bool t0, .slice B0 m0 d0])
    rw [hwa1]; simpa using this
  rw [← hwa1]
  clear hwa1
  refine (rvalidQ h0).mono ?_
  rintro e w2 ⟨rfl, hup⟩
  replace hk1 := hk1.up hup
  replace k0 := k0.up hup
  replace hupw := hupw.trans hup
  clear hup
  have hk1c0 := hk1.cell (i := 0) rfl
  have hk1c1 := hk1.cell (i := 1) rfl
  have hk1c2 := hk1.cell (i := 2) rfl
  have hk1c3 := hk1.cell (i := 3) rfl
  have hk1l := hk1.lt
  go_wp2_with fail
  clear hk1c0 hk1c1 hk1c2 hk1c3 hk1l
  refine (rvalidQ k0).mono ?_
  rintro e w3 ⟨rfl, hup⟩
  replace hk1 := hk1.up hup
  replace k0 := k0.up hup
  replace hupw := hupw.trans hup
  clear hup
  have hk1c0 := hk1.cell (i := 0) rfl
  have hk1c1 := hk1.cell (i := 1) rfl
  have hk1c2 := hk1.cell (i := 2) rfl
  have hk1c3 := hk1.cell (i := 3) rfl
  have hk1l := hk1.lt
  go_wp2_with fail
  clear hk1c0 hk1c1 hk1c2 hk1c3 hk1l
  refine (rsignQ 0 k0 (Int.sign_eq_zero_iff_zero.2 hq)).mono ?_
  rintro e w4 ⟨rfl, hup⟩
  replace hupw := hupw.trans hup
  clear hup
  go_wp2_with fail
  go_ret
  exact ⟨rfl, hupw⟩
set_option maxRecDepth 100000 in
set_option maxHeartbeats 4000000 in
theorem rvalid_m {p q : Int} (v0 : Value) (w : World) (f0 : Gz w v0 (fun w v => Iz w v p) (fun w v => Iz w v q)) (hq : q < 0) :
    Calls Tryz.prog 21 #[v0] w (PB w false) := by
  obtain ⟨s0, A0, n0, c0, t0, B0, m0, d0, rfl, h0, k0⟩ := f0
  replace h0 : Iz w (.agg #[.bool s0, .slice A0 n0 c0]) p := h0
  replace k0 : Iz w (.agg #[.bool t0, .slice B0 m0 d0]) q := k0
  have hupw : Up w w := Up.refl w
  go_enter Tryz.func21, Tryz.ntmps21
  go_wp2_with fail
  obtain ⟨wa1, hwa1⟩ : ∃ x, x = (w.alloc (.cells #[.bool s0, .slice A0 n0 c0, .bool t0, .slice B0 m0 d0] 29)) := ⟨_, rfl⟩
  have hup : Up w wa1 := by rw [hwa1]; exact ((Up.refl w).alloc _)
  have hzwa1 : w.heap.size ≤ w.heap.size := hupw.size
  replace h0 := h0.up hup
  replace k0 := k0.up hup
  replace hupw := hupw.trans hup
  clear hup
  have hk1 : Bk wa1 (w.heap.size) 29 #[.bool s0, .slice A0 n0 c0, .bool t0, .slice B0 m0 d0] := by
    have := (Bk.new w 29 #[.bool s0, .slice A0 n0 c0, .bool t0, .slice B0 m0 d0])
    rw [hwa1]; simpa using this
  rw [← hwa1]
  clear hwa1
  refine (rvalidQ h0).mono ?_
  rintro e w2 ⟨rfl, hup⟩
  replace hk1 := hk1.up hup
  replace k0 := k0.up hup
  replace hupw := hupw.trans hup
  clear hup
  have hk1c0 := hk1.cell (i := 0) rfl
  have hk1c1 := hk1.cell (i := 1) rfl
  have hk1c2 := hk1.cell (i := 2) rfl
  have hk1c3 := hk1.cell (i := 3) rfl
  have hk1l := hk1.lt
  go_wp2_with fail
  clear hk1c0 hk1c1 hk1c2 hk1c3 hk1l
  refine (rvalidQ k0).mono ?_
  rintro e w3 ⟨rfl, hup⟩
  replace hk1 := hk1.up hup
  replace k0 := k0.up hup
  replace hupw := hupw.trans hup
  clear hup
  have hk1c0 := hk1.cell (i := 0) rfl
  have hk1c1 := hk1.cell (i := 1) rfl
  have hk1c2 := hk1.cell (i := 2) rfl
  have hk1c3 := hk1.cell (i := 3) rfl
  have hk1l := hk1.lt
  go_wp2_with fail
  clear hk1c0 hk1c1 hk1c2 hk1c3 hk1l
  refine (rsignQ (-1) k0 (Int.sign_eq_neg_one_of_neg hq)).mono ?_
  rintro e w4 ⟨rfl, hup⟩
  replace hupw := hupw.trans hup
  clear hup
  go_wp2_with fail
  go_ret
  exact ⟨rfl, hupw⟩
set_option maxRecDepth 100000 in
set_option maxHeartbeats 4000000 in
theorem rvalid_y {p q g : Int} (v0 : Value) (w : World) (f0 : Gz w v0 (fun w v => Iz w v p) (fun w v => Iz w v q)) (hq : 0 < q) (Hg : Hid (g = (Nat.gcd p.natAbs q.natAbs : Nat))) (hg : g = 1) :
    Calls Tryz.prog 21 #[v0] w (PB w true) := by
  obtain ⟨s0, A0, n0, c0, t0, B0, m0, d0, rfl, h0, k0⟩ := f0
  replace h0 : Iz w (.agg #[.bool s0, .slice A0 n0 c0]) p := h0
  replace k0 : Iz w (.agg #[.bool t0, .slice B0 m0 d0]) q := k0
  have hupw : Up w w := Up.refl w
  go_enter Tryz.func21, Tryz.ntmps21
  go_wp2_with fail
  obtain ⟨wa1, hwa1⟩ : ∃ x, x = (w.alloc (.cells #[.bool s0, .slice A0 n0 c0, .bool t0, .slice B0 m0 d0] 29)) := ⟨_, rfl⟩
  have hup : Up w wa1 := by rw [hwa1]; exact ((Up.refl w).alloc _)
  have hzwa1 : w.heap.size ≤ w.heap.size := hupw.size
  replace h0 := h0.up hup
  replace k0 := k0.up hup
  replace hupw := hupw.trans hup
  clear hup
  have hk1 : Bk wa1 (w.heap.size) 29 #[.bool s0, .slice A0 n0 c0, .bool t0, .slice B0 m0 d0] := by
    have := (Bk.new w 29 #[.bool s0, .slice A0 n0 c0, .bool t0, .slice B0 m0 d0])
    rw [hwa1]; simpa using this
  rw [← hwa1]
  clear hwa1
  refine (rvalidQ h0).mono ?_
  rintro e w2 ⟨rfl, hup⟩
  replace hk1 := hk1.up hup
  replace h0 := h0.up hup
  replace k0 := k0.up hup
  replace hupw := hupw.trans hup
  clear hup
  have hk1c0 := hk1.cell (i := 0) rfl
  have hk1c1 := hk1.cell (i := 1) rfl
  have hk1c2 := hk1.cell (i := 2) rfl
  have hk1c3 := hk1.cell (i := 3) rfl
  have hk1l := hk1.lt
  go_wp2_with fail
  clear hk1c0 hk1c1 hk1c2 hk1c3 hk1l
  refine (rvalidQ k0).mono ?_
  rintro e w3 ⟨rfl, hup⟩
  replace hk1 := hk1.up hup
  replace h0 := h0.up hup
  replace k0 := k0.up hup
  replace hupw := hupw.trans hup
  clear hup
  have hk1c0 := hk1.cell (i := 0) rfl
  have hk1c1 := hk1.cell (i := 1) rfl
  have hk1c2 := hk1.cell (i := 2) rfl
  have hk1c3 := hk1.cell (i := 3) rfl
  have hk1l := hk1.lt
  go_wp2_with fail
  clear hk1c0 hk1c1 hk1c2 hk1c3 hk1l
  refine (rsignQ 1 k0 (Int.sign_eq_one_of_pos hq)).mono ?_
  rintro e w4 ⟨rfl, hup⟩
  replace hk1 := hk1.up hup
  replace h0 := h0.up hup
  replace k0 := k0.up hup
  replace hupw := hupw.trans hup
  clear hup
  have hk1c0 := hk1.cell (i := 0) rfl
  have hk1c1 := hk1.cell (i := 1) rfl
  have hk1c2 := hk1.cell (i := 2) rfl
  have hk1c3 := hk1.cell (i := 3) rfl
  have hk1l := hk1.lt
  go_wp2_with fail
  clear hk1c0 hk1c1 hk1c2 hk1c3 hk1l
  refine (rgcdG Hg h0 k0).mono ?_
  rintro e w5 ⟨v_6, rfl, h_6, hup⟩
  replace hupw := hupw.trans hup
  clear hup
  obtain ⟨s_6, A_6, n_6, c_6, rfl⟩ := h_6.agg
  go_wp2_with fail
  refine (rofQ 1 (by decide) (by decide)).mono ?_
  rintro e w7 ⟨v_8, rfl, h_8, hup⟩
  replace h_6 := h_6.up hup
  replace hupw := hupw.trans hup
  clear hup
  obtain ⟨s_8, A_8, n_8, c_8, rfl⟩ := h_8.agg
  go_wp2_with fail
  refine (requalQ h_6 (h_8.congr hg.symm)).mono ?_
  rintro e w9 ⟨rfl, hup⟩
  replace hupw := hupw.trans hup
  clear hup
  go_wp2_with fail
  go_ret
  exact ⟨rfl, hupw⟩
set_option maxRecDepth 100000 in
set_option maxHeartbeats 4000000 in
theorem rvalid_n {p q g : Int} (v0 : Value) (w : World) (f0 : Gz w v0 (fun w v => Iz w v p) (fun w v => Iz w v q)) (hq : 0 < q) (Hg : Hid (g = (Nat.gcd p.natAbs q.natAbs : Nat))) (hg : g ≠ 1) :
    Calls Tryz.prog 21 #[v0] w (PB w false) := by
  obtain ⟨s0, A0, n0, c0, t0, B0, m0, d0, rfl, h0, k0⟩ := f0
  replace h0 : Iz w (.agg #[.bool s0, .slice A0 n0 c0]) p := h0
  replace k0 : Iz w (.agg #[.bool t0, .slice B0 m0 d0]) q := k0
  have hupw : Up w w := Up.refl w
  go_enter Tryz.func21, Tryz.ntmps21
  go_wp2_with fail
  obtain ⟨wa1, hwa1⟩ : ∃ x, x = (w.alloc (.cells #[.bool s0, .slice A0 n0 c0, .bool t0, .slice B0 m0 d0] 29)) := ⟨_, rfl⟩
  have hup : Up w wa1 := by rw [hwa1]; exact ((Up.refl w).alloc _)
  have hzwa1 : w.heap.size ≤ w.heap.size := hupw.size
  replace h0 := h0.up hup
  replace k0 := k0.up hup
  replace hupw := hupw.trans hup
  clear hup
  have hk1 : Bk wa1 (w.heap.size) 29 #[.bool s0, .slice A0 n0 c0, .bool t0, .slice B0 m0 d0] := by
    have := (Bk.new w 29 #[.bool s0, .slice A0 n0 c0, .bool t0, .slice B0 m0 d0])
    rw [hwa1]; simpa using this
  rw [← hwa1]
  clear hwa1
  refine (rvalidQ h0).mono ?_
  rintro e w2 ⟨rfl, hup⟩
  replace hk1 := hk1.up hup
  replace h0 := h0.up hup
  replace k0 := k0.up hup
  replace hupw := hupw.trans hup
  clear hup
  have hk1c0 := hk1.cell (i := 0) rfl
  have hk1c1 := hk1.cell (i := 1) rfl
  have hk1c2 := hk1.cell (i := 2) rfl
  have hk1c3 := hk1.cell (i := 3) rfl
  have hk1l := hk1.lt
  go_wp2_with fail
  clear hk1c0 hk1c1 hk1c2 hk1c3 hk1l
  refine (rvalidQ k0).mono ?_
  rintro e w3 ⟨rfl, hup⟩
  replace hk1 := hk1.up hup
  replace h0 := h0.up hup
  replace k0 := k0.up hup
  replace hupw := hupw.trans hup
  clear hup
  have hk1c0 := hk1.cell (i := 0) rfl
  have hk1c1 := hk1.cell (i := 1) rfl
  have hk1c2 := hk1.cell (i := 2) rfl
  have hk1c3 := hk1.cell (i := 3) rfl
  have hk1l := hk1.lt
  go_wp2_with fail
  clear hk1c0 hk1c1 hk1c2 hk1c3 hk1l
  refine (rsignQ 1 k0 (Int.sign_eq_one_of_pos hq)).mono ?_
  rintro e w4 ⟨rfl, hup⟩
  replace hk1 := hk1.up hup
  replace h0 := h0.up hup
  replace k0 := k0.up hup
  replace hupw := hupw.trans hup
  clear hup
  have hk1c0 := hk1.cell (i := 0) rfl
  have hk1c1 := hk1.cell (i := 1) rfl
  have hk1c2 := hk1.cell (i := 2) rfl
  have hk1c3 := hk1.cell (i := 3) rfl
  have hk1l := hk1.lt
  go_wp2_with fail
  clear hk1c0 hk1c1 hk1c2 hk1c3 hk1l
  refine (rgcdG Hg h0 k0).mono ?_
  rintro e w5 ⟨v_6, rfl, h_6, hup⟩
  replace hupw := hupw.trans hup
  clear hup
  obtain ⟨s_6, A_6, n_6, c_6, rfl⟩ := h_6.agg
  go_wp2_with fail
  refine (rofQ 1 (by decide) (by decide)).mono ?_
  rintro e w7 ⟨v_8, rfl, h_8, hup⟩
  replace h_6 := h_6.up hup
  replace hupw := hupw.trans hup
  clear hup
  obtain ⟨s_8, A_8, n_8, c_8, rfl⟩ := h_8.agg
  go_wp2_with fail
  refine (requalN h_6 h_8 hg).mono ?_
  rintro e w9 ⟨rfl, hup⟩
  replace hupw := hupw.trans hup
  clear hup
  go_wp2_with fail
  go_ret
  exact ⟨rfl, hupw⟩
/-- A raw fraction that is not valid. -/
def Nz (w : World) (v : Value) : Prop := Gz w v Az Bz ∨ Gz w v Bz Az ∨ ∃ p q, Fz w v p q ∧ lowB p q = false
theorem Fz.gz {w : World} {v : Value} {p q : Int} (h : Fz w v p q) : Gz w v (fun w v => Iz w v p) (fun w v => Iz w v q) := h
theorem Gz.up {w w' : World} {v : Value} {P Q : World → Value → Prop} (h : Gz w v P Q) (hP : ∀ v, P w v → P w' v) (hQ : ∀ v, Q w v → Q w' v) : Gz w' v P Q := by
  obtain ⟨s, A, n, c, t, B, m, d, rfl, h1, h2⟩ := h
  exact ⟨s, A, n, c, t, B, m, d, rfl, hP _ h1, hQ _ h2⟩
theorem Nz.up {w w' : World} {v : Value} (h : Nz w v) (hu : Up w w') : Nz w' v := by
  rcases h with h | h | ⟨p, q, h, hl⟩
  · exact .inl (h.up (fun _ h => h.up hu) fun _ h => h.up hu)
  · exact .inr (.inl (h.up (fun _ h => h.up hu) fun _ h => h.up hu))
  · exact .inr (.inr ⟨p, q, h.up hu, hl⟩)
theorem validNQ {w : World} {v : Value} (h : Nz w v) : Calls Tryz.prog 19 #[v] w (PB w false) := by
  rcases h with h | h | ⟨p, q, h, hl⟩
  · exact valid_b v w h
  · obtain ⟨s, A, n, c, t, B, m, d, rfl, h1, h2⟩ := h
    rcases h2.or with h2 | ⟨q, h2⟩
    · exact valid_b _ w ⟨s, A, n, c, t, B, m, d, rfl, h1.raw, h2⟩
    · rcases Int.lt_trichotomy q 0 with hq | hq | hq
      · exact valid_m _ w ⟨s, A, n, c, t, B, m, d, rfl, h1.raw, h2⟩ hq
      · exact valid_0 _ w ⟨s, A, n, c, t, B, m, d, rfl, h1.raw, h2⟩ hq
      · exact valid_c _ w ⟨s, A, n, c, t, B, m, d, rfl, h1, h2⟩ hq
  · obtain ⟨s, A, n, c, t, B, m, d, rfl, h1, h2⟩ := h
    rcases Int.lt_trichotomy q 0 with hq | hq | hq
    · exact valid_m _ w ⟨s, A, n, c, t, B, m, d, rfl, h1.raw, h2⟩ hq
    · exact valid_0 _ w ⟨s, A, n, c, t, B, m, d, rfl, h1.raw, h2⟩ hq
    · exact valid_n _ w ⟨s, A, n, c, t, B, m, d, rfl, h1, h2⟩ hq rfl (g_not (x := p) rfl hq hl)
theorem validRQ {w : World} {v : Value} {r : Rat} (h : Rz w v r) : Calls Tryz.prog 19 #[v] w (PB w true) := by
  obtain ⟨s, A, n, c, t, B, m, d, rfl, h1, h2⟩ := h
  exact valid_y _ w ⟨s, A, n, c, t, B, m, d, rfl, h1, h2⟩ (dn_pos r) rfl (g_one rfl (low_rat r))
theorem rvalidNQ {w : World} {v : Value} (h : Nz w v) : Calls Tryz.prog 21 #[v] w (PB w false) := by
  rcases h with h | h | ⟨p, q, h, hl⟩
  · obtain ⟨s, A, n, c, t, B, m, d, rfl, h1, h2⟩ := h
    rcases h1.or with h1 | ⟨q, h1⟩
    · exact rvalid_a _ w ⟨s, A, n, c, t, B, m, d, rfl, h1, h2.raw⟩
    · exact rvalid_b _ w ⟨s, A, n, c, t, B, m, d, rfl, h1, h2⟩
  · exact rvalid_a v w h
  · obtain ⟨s, A, n, c, t, B, m, d, rfl, h1, h2⟩ := h
    rcases Int.lt_trichotomy q 0 with hq | hq | hq
    · exact rvalid_m _ w ⟨s, A, n, c, t, B, m, d, rfl, h1, h2⟩ hq
    · exact rvalid_0 _ w ⟨s, A, n, c, t, B, m, d, rfl, h1, h2⟩ hq
    · exact rvalid_n _ w ⟨s, A, n, c, t, B, m, d, rfl, h1, h2⟩ hq rfl (g_not (x := p) rfl hq hl)
theorem rvalidRQ {w : World} {v : Value} {r : Rat} (h : Rz w v r) : Calls Tryz.prog 21 #[v] w (PB w true) := by
  obtain ⟨s, A, n, c, t, B, m, d, rfl, h1, h2⟩ := h
  exact rvalid_y _ w ⟨s, A, n, c, t, B, m, d, rfl, h1, h2⟩ (dn_pos r) rfl (g_one rfl (low_rat r))

end Go.Proofs.YtldifgfpecicnaaGreatDoor
