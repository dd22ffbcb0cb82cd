/- The law of Valid. -/
import Derived.Test.YtldifgfpecicnaaGreatDoorDot1
namespace Go.Proofs.YtldifgfpecicnaaGreatDoor
open Go.RowKit

set_option maxRecDepth 100000 in
theorem fewT (s : Bool) (A : Option Addr) (c n : Nat) (b : Bool) (w : World) (h : decide ((n : Int) ≤ 36) = b) : Calls Tryz.prog 13 #[.agg #[.bool s, .slice A n c], .int .i64 36] w (PB w b) := by
  rw [← h]; exact few_any s A c n 36 w
set_option maxRecDepth 100000 in
set_option maxHeartbeats 4000000 in
theorem few_yy (s0 t0 : Bool) (A0 B0 : Option Addr) (n0 c0 m0 d0 : Nat) (w : World)  (hn : decide ((n0 : Int) ≤ 36) = true) (hm : decide ((m0 : Int) ≤ 36) = true) :
    Calls Tryz.prog 20 #[.agg #[.bool s0, .slice A0 n0 c0, .bool t0, .slice B0 m0 d0], .int .i64 36] w (PB w true) := by
  have hupw : Up w w := Up.refl w
  go_enter Tryz.func20, Tryz.ntmps20
  go_wp2_with fail
  obtain ⟨wa1, hwa1⟩ : ∃ x, x = (w.alloc (.cells #[.bool s0, .slice A0 n0 c0, .bool t0, .slice B0 m0 d0] 29)) := ⟨_, rfl⟩
  have hup : Up w wa1 := by rw [hwa1]; exact ((Up.refl w).alloc _)
  have hzwa1 : w.heap.size ≤ w.heap.size := hupw.size
  replace hupw := hupw.trans hup
  clear hup
  have hk2 : Bk wa1 (w.heap.size) 29 #[.bool s0, .slice A0 n0 c0, .bool t0, .slice B0 m0 d0] := by
    have := (Bk.new w 29 #[.bool s0, .slice A0 n0 c0, .bool t0, .slice B0 m0 d0])
    rw [hwa1]; simpa using this
  rw [← hwa1]
  clear hwa1
  refine (fewT s0 A0 c0 n0 true _ hn).mono ?_
  rintro e w2 ⟨rfl, hup⟩
  replace hk2 := hk2.up hup
  replace hupw := hupw.trans hup
  clear hup
  have hk2c0 := hk2.cell (i := 0) rfl
  have hk2c1 := hk2.cell (i := 1) rfl
  have hk2c2 := hk2.cell (i := 2) rfl
  have hk2c3 := hk2.cell (i := 3) rfl
  have hk2l := hk2.lt
  go_wp2_with fail
  clear hk2c0 hk2c1 hk2c2 hk2c3 hk2l
  refine (fewT t0 B0 d0 m0 true _ hm).mono ?_
  rintro e w3 ⟨rfl, hup⟩
  replace hupw := hupw.trans hup
  clear hup
  go_wp2_with fail
  go_ret
  exact ⟨rfl, hupw⟩
set_option maxRecDepth 100000 in
set_option maxHeartbeats 4000000 in
theorem few_yn (s0 t0 : Bool) (A0 B0 : Option Addr) (n0 c0 m0 d0 : Nat) (w : World)  (hn : decide ((n0 : Int) ≤ 36) = true) (hm : decide ((m0 : Int) ≤ 36) = false) :
    Calls Tryz.prog 20 #[.agg #[.bool s0, .slice A0 n0 c0, .bool t0, .slice B0 m0 d0], .int .i64 36] w (PB w false) := by
  have hupw : Up w w := Up.refl w
  go_enter Tryz.func20, Tryz.ntmps20
  go_wp2_with fail
  obtain ⟨wa1, hwa1⟩ : ∃ x, x = (w.alloc (.cells #[.bool s0, .slice A0 n0 c0, .bool t0, .slice B0 m0 d0] 29)) := ⟨_, rfl⟩
  have hup : Up w wa1 := by rw [hwa1]; exact ((Up.refl w).alloc _)
  have hzwa1 : w.heap.size ≤ w.heap.size := hupw.size
  replace hupw := hupw.trans hup
  clear hup
  have hk2 : Bk wa1 (w.heap.size) 29 #[.bool s0, .slice A0 n0 c0, .bool t0, .slice B0 m0 d0] := by
    have := (Bk.new w 29 #[.bool s0, .slice A0 n0 c0, .bool t0, .slice B0 m0 d0])
    rw [hwa1]; simpa using this
  rw [← hwa1]
  clear hwa1
  refine (fewT s0 A0 c0 n0 true _ hn).mono ?_
  rintro e w2 ⟨rfl, hup⟩
  replace hk2 := hk2.up hup
  replace hupw := hupw.trans hup
  clear hup
  have hk2c0 := hk2.cell (i := 0) rfl
  have hk2c1 := hk2.cell (i := 1) rfl
  have hk2c2 := hk2.cell (i := 2) rfl
  have hk2c3 := hk2.cell (i := 3) rfl
  have hk2l := hk2.lt
  go_wp2_with fail
  clear hk2c0 hk2c1 hk2c2 hk2c3 hk2l
  refine (fewT t0 B0 d0 m0 false _ hm).mono ?_
  rintro e w3 ⟨rfl, hup⟩
  replace hupw := hupw.trans hup
  clear hup
  go_wp2_with fail
  go_ret
  exact ⟨rfl, hupw⟩
set_option maxRecDepth 100000 in
set_option maxHeartbeats 4000000 in
theorem few_n (s0 t0 : Bool) (A0 B0 : Option Addr) (n0 c0 m0 d0 : Nat) (w : World)  (hn : decide ((n0 : Int) ≤ 36) = false) :
    Calls Tryz.prog 20 #[.agg #[.bool s0, .slice A0 n0 c0, .bool t0, .slice B0 m0 d0], .int .i64 36] w (PB w false) := by
  have hupw : Up w w := Up.refl w
  go_enter Tryz.func20, Tryz.ntmps20
  go_wp2_with fail
  obtain ⟨wa1, hwa1⟩ : ∃ x, x = (w.alloc (.cells #[.bool s0, .slice A0 n0 c0, .bool t0, .slice B0 m0 d0] 29)) := ⟨_, rfl⟩
  have hup : Up w wa1 := by rw [hwa1]; exact ((Up.refl w).alloc _)
  have hzwa1 : w.heap.size ≤ w.heap.size := hupw.size
  replace hupw := hupw.trans hup
  clear hup
  have hk2 : Bk wa1 (w.heap.size) 29 #[.bool s0, .slice A0 n0 c0, .bool t0, .slice B0 m0 d0] := by
    have := (Bk.new w 29 #[.bool s0, .slice A0 n0 c0, .bool t0, .slice B0 m0 d0])
    rw [hwa1]; simpa using this
  rw [← hwa1]
  clear hwa1
  refine (fewT s0 A0 c0 n0 false _ hn).mono ?_
  rintro e w2 ⟨rfl, hup⟩
  replace hupw := hupw.trans hup
  clear hup
  go_wp2_with fail
  go_ret
  exact ⟨rfl, hupw⟩
set_option maxRecDepth 100000 in
set_option maxHeartbeats 4000000 in
theorem valid_few (s0 t0 : Bool) (A0 B0 : Option Addr) (n0 c0 m0 d0 : Nat) {x : Rat} (v1 : Value) (w : World) (f1 : Dz w v1 x) (hp : Pow w) (hf : ∀ W, Calls Tryz.prog 20 #[(.agg #[.bool s0, .slice A0 n0 c0, .bool t0, .slice B0 m0 d0]), .int .i64 36] W (PB W false)) :
    Calls Tryz.prog 4 #[.agg #[.bool s0, .slice A0 n0 c0, .bool t0, .slice B0 m0 d0], v1] w (PB w true) := by
  have D1 := f1
  obtain ⟨s1, A1, n1, c1, t1, B1, m1, d1, rfl⟩ := f1.agg4
  clear f1
  have hupw : Up w w := Up.refl w
  go_enter Tryz.func4, Tryz.ntmps4
  go_wp2_with fail
  obtain ⟨wa1, hwa1⟩ : ∃ x, x = ((w.alloc (.cells #[.bool s0, .slice A0 n0 c0, .bool t0, .slice B0 m0 d0] 29)).alloc (.cells #[.bool s1, .slice A1 n1 c1, .bool t1, .slice B1 m1 d1] 39)) := ⟨_, rfl⟩
  have hup : Up w wa1 := by rw [hwa1]; exact (((Up.refl w).alloc _).alloc _)
  have hzwa1 : w.heap.size ≤ w.heap.size := hupw.size
  replace hupw := hupw.trans hup
  clear hup
  have hk2 : Bk wa1 (w.heap.size) 29 #[.bool s0, .slice A0 n0 c0, .bool t0, .slice B0 m0 d0] := by
    have := ((Bk.new w 29 #[.bool s0, .slice A0 n0 c0, .bool t0, .slice B0 m0 d0]).alloc (.cells #[.bool s1, .slice A1 n1 c1, .bool t1, .slice B1 m1 d1] 39))
    rw [hwa1]; simpa using this
  have hk3 : Bk wa1 (w.heap.size + 1) 39 #[.bool s1, .slice A1 n1 c1, .bool t1, .slice B1 m1 d1] := by
    have := (Bk.new (w.alloc (.cells #[.bool s0, .slice A0 n0 c0, .bool t0, .slice B0 m0 d0] 29)) 39 #[.bool s1, .slice A1 n1 c1, .bool t1, .slice B1 m1 d1])
    rw [hwa1]; simpa using this
  rw [← hwa1]
  clear hwa1
  refine (awakeQ (hp.up hupw)).mono ?_
  rintro e w2 ⟨rfl, hup⟩
  replace hk2 := hk2.up hup
  replace hupw := hupw.trans hup
  clear hup
  have hk2c0 := hk2.cell (i := 0) rfl
  have hk2c1 := hk2.cell (i := 1) rfl
  have hk2c2 := hk2.cell (i := 2) rfl
  have hk2c3 := hk2.cell (i := 3) rfl
  have hk2l := hk2.lt
  go_wp2_with fail
  clear hk2c0 hk2c1 hk2c2 hk2c3 hk2l
  refine (hf _).mono ?_
  rintro e w3 ⟨rfl, hup⟩
  replace hupw := hupw.trans hup
  clear hup
  go_wp2_with fail
  refine (awakeQ (hp.up hupw)).mono ?_
  rintro e w4 ⟨rfl, hup⟩
  replace hupw := hupw.trans hup
  clear hup
  go_wp2_with fail
  go_ret
  exact ⟨rfl, hupw⟩
set_option maxRecDepth 100000 in
set_option maxHeartbeats 4000000 in
theorem valid_ok (s0 t0 : Bool) (A0 B0 : Option Addr) (n0 c0 m0 d0 : Nat) {x r : Rat} (v1 : Value) (w : World) (f1 : Dz w v1 x) (hp : Pow w) (hf : ∀ W, Calls Tryz.prog 20 #[(.agg #[.bool s0, .slice A0 n0 c0, .bool t0, .slice B0 m0 d0]), .int .i64 36] W (PB W true)) (hR : Rz w (.agg #[.bool s0, .slice A0 n0 c0, .bool t0, .slice B0 m0 d0]) r) :
    Calls Tryz.prog 4 #[.agg #[.bool s0, .slice A0 n0 c0, .bool t0, .slice B0 m0 d0], v1] w (PB w true) := by
  have D1 := f1
  obtain ⟨s1, A1, n1, c1, t1, B1, m1, d1, rfl⟩ := f1.agg4
  clear f1
  have hupw : Up w w := Up.refl w
  go_enter Tryz.func4, Tryz.ntmps4
  go_wp2_with fail
  obtain ⟨wa1, hwa1⟩ : ∃ x, x = ((w.alloc (.cells #[.bool s0, .slice A0 n0 c0, .bool t0, .slice B0 m0 d0] 29)).alloc (.cells #[.bool s1, .slice A1 n1 c1, .bool t1, .slice B1 m1 d1] 39)) := ⟨_, rfl⟩
  have hup : Up w wa1 := by rw [hwa1]; exact (((Up.refl w).alloc _).alloc _)
  have hzwa1 : w.heap.size ≤ w.heap.size := hupw.size
  replace hR := hR.up hup
  replace hupw := hupw.trans hup
  clear hup
  have hk2 : Bk wa1 (w.heap.size) 29 #[.bool s0, .slice A0 n0 c0, .bool t0, .slice B0 m0 d0] := by
    have := ((Bk.new w 29 #[.bool s0, .slice A0 n0 c0, .bool t0, .slice B0 m0 d0]).alloc (.cells #[.bool s1, .slice A1 n1 c1, .bool t1, .slice B1 m1 d1] 39))
    rw [hwa1]; simpa using this
  have hk3 : Bk wa1 (w.heap.size + 1) 39 #[.bool s1, .slice A1 n1 c1, .bool t1, .slice B1 m1 d1] := by
    have := (Bk.new (w.alloc (.cells #[.bool s0, .slice A0 n0 c0, .bool t0, .slice B0 m0 d0] 29)) 39 #[.bool s1, .slice A1 n1 c1, .bool t1, .slice B1 m1 d1])
    rw [hwa1]; simpa using this
  rw [← hwa1]
  clear hwa1
  refine (awakeQ (hp.up hupw)).mono ?_
  rintro e w2 ⟨rfl, hup⟩
  replace hk2 := hk2.up hup
  replace hR := hR.up hup
  replace hupw := hupw.trans hup
  clear hup
  have hk2c0 := hk2.cell (i := 0) rfl
  have hk2c1 := hk2.cell (i := 1) rfl
  have hk2c2 := hk2.cell (i := 2) rfl
  have hk2c3 := hk2.cell (i := 3) rfl
  have hk2l := hk2.lt
  go_wp2_with fail
  clear hk2c0 hk2c1 hk2c2 hk2c3 hk2l
  refine (hf _).mono ?_
  rintro e w3 ⟨rfl, hup⟩
  replace hk2 := hk2.up hup
  replace hR := hR.up hup
  replace hupw := hupw.trans hup
  clear hup
  go_wp2_with fail
  have kk2_0 : w3.cell? ⟨w.heap.size, 0, none⟩ = some (.bool s0) := hk2.cell (i := 0) rfl
  have kk2_1 : w3.cell? ⟨w.heap.size, 1, none⟩ = some (.slice A0 n0 c0) := hk2.cell (i := 1) rfl
  have kk2_2 : w3.cell? ⟨w.heap.size, 2, none⟩ = some (.bool t0) := hk2.cell (i := 2) rfl
  have kk2_3 : w3.cell? ⟨w.heap.size, 3, none⟩ = some (.slice B0 m0 d0) := hk2.cell (i := 3) rfl
  have hupA : Up w3 w3.drew := (Up.refl w3).drew
  go_region_held3 (fun w' => w'.cell? ⟨w.heap.size, 0, none⟩ = some (.bool s0) ∧ w'.cell? ⟨w.heap.size, 1, none⟩ = some (.slice A0 n0 c0) ∧ w'.cell? ⟨w.heap.size, 2, none⟩ = some (.bool t0) ∧ w'.cell? ⟨w.heap.size, 3, none⟩ = some (.slice B0 m0 d0))
    (exact ⟨hupA.keep kk2_0, hupA.keep kk2_1, hupA.keep kk2_2, hupA.keep kk2_3⟩)
    (first | (go_at_call 19; refine (validRQ (hR.up hupA)).mono ?_; rintro e w4 ⟨rfl, hupx⟩; replace hupA := hupA.trans hupx) | (go_at_call 21; refine (rvalidRQ (hR.up hupA)).mono ?_; rintro e w5 ⟨rfl, hupx⟩; replace hupA := hupA.trans hupx))
  clear kk2_0 kk2_1 kk2_2 kk2_3
  replace hk2 := hk2.up hupA
  replace hR := hR.up hupA
  replace hupw := hupw.trans hupA
  clear hupA
  have hk2c0 := hk2.cell (i := 0) rfl
  have hk2c1 := hk2.cell (i := 1) rfl
  have hk2c2 := hk2.cell (i := 2) rfl
  have hk2c3 := hk2.cell (i := 3) rfl
  have hk2l := hk2.lt
  go_wp2_with fail
  clear hk2c0 hk2c1 hk2c2 hk2c3 hk2l
  refine (rvalidRQ hR).mono ?_
  rintro e w6 ⟨rfl, hup⟩
  replace hupw := hupw.trans hup
  clear hup
  go_wp2_with fail
  go_ret
  exact ⟨rfl, hupw⟩
set_option maxRecDepth 100000 in
set_option maxHeartbeats 8000000 in
theorem valid_bad (s0 t0 : Bool) (A0 B0 : Option Addr) (n0 c0 m0 d0 : Nat) {x : Rat} (v1 : Value) (w : World) (f1 : Dz w v1 x) (hp : Pow w) (hf : ∀ W, Calls Tryz.prog 20 #[(.agg #[.bool s0, .slice A0 n0 c0, .bool t0, .slice B0 m0 d0]), .int .i64 36] W (PB W true)) (hR : Nz w (.agg #[.bool s0, .slice A0 n0 c0, .bool t0, .slice B0 m0 d0])) :
    Calls Tryz.prog 4 #[.agg #[.bool s0, .slice A0 n0 c0, .bool t0, .slice B0 m0 d0], v1] w (PB w true) := by
  have D1 := f1
  obtain ⟨s1, A1, n1, c1, t1, B1, m1, d1, rfl⟩ := f1.agg4
  clear f1
  have hupw : Up w w := Up.refl w
  go_enter Tryz.func4, Tryz.ntmps4
  go_wp2_with fail
  obtain ⟨wa1, hwa1⟩ : ∃ x, x = ((w.alloc (.cells #[.bool s0, .slice A0 n0 c0, .bool t0, .slice B0 m0 d0] 29)).alloc (.cells #[.bool s1, .slice A1 n1 c1, .bool t1, .slice B1 m1 d1] 39)) := ⟨_, rfl⟩
  have hup : Up w wa1 := by rw [hwa1]; exact (((Up.refl w).alloc _).alloc _)
  have hzwa1 : w.heap.size ≤ w.heap.size := hupw.size
  replace hR := hR.up hup
  replace D1 := D1.up hup
  replace hupw := hupw.trans hup
  clear hup
  have hk2 : Bk wa1 (w.heap.size) 29 #[.bool s0, .slice A0 n0 c0, .bool t0, .slice B0 m0 d0] := by
    have := ((Bk.new w 29 #[.bool s0, .slice A0 n0 c0, .bool t0, .slice B0 m0 d0]).alloc (.cells #[.bool s1, .slice A1 n1 c1, .bool t1, .slice B1 m1 d1] 39))
    rw [hwa1]; simpa using this
  have hk3 : Bk wa1 (w.heap.size + 1) 39 #[.bool s1, .slice A1 n1 c1, .bool t1, .slice B1 m1 d1] := by
    have := (Bk.new (w.alloc (.cells #[.bool s0, .slice A0 n0 c0, .bool t0, .slice B0 m0 d0] 29)) 39 #[.bool s1, .slice A1 n1 c1, .bool t1, .slice B1 m1 d1])
    rw [hwa1]; simpa using this
  rw [← hwa1]
  clear hwa1
  refine (awakeQ (hp.up hupw)).mono ?_
  rintro e w2 ⟨rfl, hup⟩
  replace hk2 := hk2.up hup
  replace hk3 := hk3.up hup
  replace hR := hR.up hup
  replace D1 := D1.up hup
  replace hupw := hupw.trans hup
  clear hup
  have hk2c0 := hk2.cell (i := 0) rfl
  have hk2c1 := hk2.cell (i := 1) rfl
  have hk2c2 := hk2.cell (i := 2) rfl
  have hk2c3 := hk2.cell (i := 3) rfl
  have hk2l := hk2.lt
  go_wp2_with fail
  clear hk2c0 hk2c1 hk2c2 hk2c3 hk2l
  refine (hf _).mono ?_
  rintro e w3 ⟨rfl, hup⟩
  replace hk2 := hk2.up hup
  replace hk3 := hk3.up hup
  replace hR := hR.up hup
  replace D1 := D1.up hup
  replace hupw := hupw.trans hup
  clear hup
  go_wp2_with fail
  have kk2_0 : w3.cell? ⟨w.heap.size, 0, none⟩ = some (.bool s0) := hk2.cell (i := 0) rfl
  have kk2_1 : w3.cell? ⟨w.heap.size, 1, none⟩ = some (.slice A0 n0 c0) := hk2.cell (i := 1) rfl
  have kk2_2 : w3.cell? ⟨w.heap.size, 2, none⟩ = some (.bool t0) := hk2.cell (i := 2) rfl
  have kk2_3 : w3.cell? ⟨w.heap.size, 3, none⟩ = some (.slice B0 m0 d0) := hk2.cell (i := 3) rfl
  have hupA : Up w3 w3.drew := (Up.refl w3).drew
  go_region_held3 (fun w' => w'.cell? ⟨w.heap.size, 0, none⟩ = some (.bool s0) ∧ w'.cell? ⟨w.heap.size, 1, none⟩ = some (.slice A0 n0 c0) ∧ w'.cell? ⟨w.heap.size, 2, none⟩ = some (.bool t0) ∧ w'.cell? ⟨w.heap.size, 3, none⟩ = some (.slice B0 m0 d0))
    (exact ⟨hupA.keep kk2_0, hupA.keep kk2_1, hupA.keep kk2_2, hupA.keep kk2_3⟩)
    (first | (go_at_call 19; refine (validNQ (hR.up hupA)).mono ?_; rintro e w4 ⟨rfl, hupx⟩; replace hupA := hupA.trans hupx) | (go_at_call 21; refine (rvalidNQ (hR.up hupA)).mono ?_; rintro e w5 ⟨rfl, hupx⟩; replace hupA := hupA.trans hupx))
  clear kk2_0 kk2_1 kk2_2 kk2_3
  replace hk2 := hk2.up hupA
  replace hk3 := hk3.up hupA
  replace hR := hR.up hupA
  replace D1 := D1.up hupA
  replace hupw := hupw.trans hupA
  clear hupA
  have hk2c0 := hk2.cell (i := 0) rfl
  have hk2c1 := hk2.cell (i := 1) rfl
  have hk2c2 := hk2.cell (i := 2) rfl
  have hk2c3 := hk2.cell (i := 3) rfl
  have hk2l := hk2.lt
  go_wp2_with fail
  clear hk2c0 hk2c1 hk2c2 hk2c3 hk2l
  refine (rvalidNQ hR).mono ?_
  rintro e w6 ⟨rfl, hup⟩
  replace hk2 := hk2.up hup
  replace hk3 := hk3.up hup
  replace hR := hR.up hup
  replace D1 := D1.up hup
  replace hupw := hupw.trans hup
  clear hup
  have hk3c0 := hk3.cell (i := 0) rfl
  have hk3c1 := hk3.cell (i := 1) rfl
  have hk3c2 := hk3.cell (i := 2) rfl
  have hk3c3 := hk3.cell (i := 3) rfl
  have hk3l := hk3.lt
  go_wp2_with fail
  clear hk3c0 hk3c1 hk3c2 hk3c3 hk3l
  refine (made_r D1).mono ?_
  rintro e w7 ⟨vf, rfl, hf, hup⟩
  replace hk2 := hk2.up hup
  replace hk3 := hk3.up hup
  replace hR := hR.up hup
  replace hupw := hupw.trans hup
  clear hup
  have hr10 := hf
  obtain ⟨s_8, A_8, n_8, c_8, s_9, A_9, n_9, c_9, rfl⟩ := hr10.agg4
  have hk2c0 := hk2.cell (i := 0) rfl
  have hk2c1 := hk2.cell (i := 1) rfl
  have hk2c2 := hk2.cell (i := 2) rfl
  have hk2c3 := hk2.cell (i := 3) rfl
  have hk2l := hk2.lt
  go_wp2_with fail
  clear hk2c0 hk2c1 hk2c2 hk2c3 hk2l
  obtain ⟨wa11, hwa11⟩ : ∃ x, x = (w7.alloc (.cells #[.bool s_8, .slice A_8 n_8 c_8, .bool s_9, .slice A_9 n_9 c_9] 29)) := ⟨_, rfl⟩
  have hup : Up w7 wa11 := by rw [hwa11]; exact ((Up.refl w7).alloc _)
  have howa11 : (w.heap.size + 1) < w7.heap.size := hk3.lt
  have hzwa11 : w.heap.size ≤ w7.heap.size := hupw.size
  replace hk2 := hk2.up hup
  replace hR := hR.up hup
  replace hr10 := hr10.up hup
  replace hupw := hupw.trans hup
  clear hup
  have hk5 : Bk wa11 (w7.heap.size) 29 #[.bool s_8, .slice A_8 n_8 c_8, .bool s_9, .slice A_9 n_9 c_9] := by
    have := (Bk.new w7 29 #[.bool s_8, .slice A_8 n_8 c_8, .bool s_9, .slice A_9 n_9 c_9])
    rw [hwa11]; simpa using this
  rw [← hwa11]
  clear hwa11
  refine (cmpN2 _ _ _ ⟨.inr ⟨_, hr10⟩, .inl hR, .inr hR⟩).mono ?_
  rintro e w12 ⟨rfl, hup⟩
  replace hk2 := hk2.up hup
  replace hk5 := hk5.up hup
  replace hR := hR.up hup
  replace hr10 := hr10.up hup
  replace hupw := hupw.trans hup
  clear hup
  have hk2c0 := hk2.cell (i := 0) rfl
  have hk2c1 := hk2.cell (i := 1) rfl
  have hk2c2 := hk2.cell (i := 2) rfl
  have hk2c3 := hk2.cell (i := 3) rfl
  have hk2l := hk2.lt
  have hk5c0 := hk5.cell (i := 0) rfl
  have hk5c1 := hk5.cell (i := 1) rfl
  have hk5c2 := hk5.cell (i := 2) rfl
  have hk5c3 := hk5.cell (i := 3) rfl
  have hk5l := hk5.lt
  go_wp2_with fail
  clear hk2c0 hk2c1 hk2c2 hk2c3 hk2l hk5c0 hk5c1 hk5c2 hk5c3 hk5l
  refine (addN2 _ _ _ ⟨.inl hR, .inr ⟨_, hr10⟩, .inl hR⟩).mono ?_
  rintro e w13 ⟨vf, rfl, hf, hup⟩
  replace hk2 := hk2.up hup
  replace hk5 := hk5.up hup
  replace hR := hR.up hup
  replace hr10 := hr10.up hup
  replace hupw := hupw.trans hup
  clear hup
  obtain ⟨s_14, A_14, n_14, c_14, s_15, A_15, n_15, c_15, rfl, h_14, h_15⟩ := hf
  have hk5c0 := hk5.cell (i := 0) rfl
  have hk5c1 := hk5.cell (i := 1) rfl
  have hk5c2 := hk5.cell (i := 2) rfl
  have hk5c3 := hk5.cell (i := 3) rfl
  have hk5l := hk5.lt
  have hk2c0 := hk2.cell (i := 0) rfl
  have hk2c1 := hk2.cell (i := 1) rfl
  have hk2c2 := hk2.cell (i := 2) rfl
  have hk2c3 := hk2.cell (i := 3) rfl
  have hk2l := hk2.lt
  go_wp2_with fail
  clear hk5c0 hk5c1 hk5c2 hk5c3 hk5l hk2c0 hk2c1 hk2c2 hk2c3 hk2l
  obtain ⟨wa16, hwa16⟩ : ∃ x, x = (w13.alloc (.cells #[.bool s_14, .slice A_14 n_14 c_14, .bool s_15, .slice A_15 n_15 c_15] 29)) := ⟨_, rfl⟩
  have hup : Up w13 wa16 := by rw [hwa16]; exact ((Up.refl w13).alloc _)
  have howa16 : w7.heap.size < w13.heap.size := hk5.lt
  have hzwa16 : w.heap.size ≤ w13.heap.size := hupw.size
  replace hk2 := hk2.up hup
  replace hk5 := hk5.up hup
  replace hR := hR.up hup
  replace hr10 := hr10.up hup
  replace hupw := hupw.trans hup
  clear hup
  have hk8 : Bk wa16 (w13.heap.size) 29 #[.bool s_14, .slice A_14 n_14 c_14, .bool s_15, .slice A_15 n_15 c_15] := by
    have := (Bk.new w13 29 #[.bool s_14, .slice A_14 n_14 c_14, .bool s_15, .slice A_15 n_15 c_15])
    rw [hwa16]; simpa using this
  rw [← hwa16]
  clear hwa16
  refine (subN2 _ _ _ ⟨.inr ⟨_, hr10⟩, .inl hR, .inr hR⟩).mono ?_
  rintro e w17 ⟨vf, rfl, hf, hup⟩
  replace hk2 := hk2.up hup
  replace hk5 := hk5.up hup
  replace hk8 := hk8.up hup
  replace hR := hR.up hup
  replace hr10 := hr10.up hup
  replace hupw := hupw.trans hup
  clear hup
  obtain ⟨s_18, A_18, n_18, c_18, s_19, A_19, n_19, c_19, rfl, h_18, h_19⟩ := hf
  have hk2c0 := hk2.cell (i := 0) rfl
  have hk2c1 := hk2.cell (i := 1) rfl
  have hk2c2 := hk2.cell (i := 2) rfl
  have hk2c3 := hk2.cell (i := 3) rfl
  have hk2l := hk2.lt
  have hk5c0 := hk5.cell (i := 0) rfl
  have hk5c1 := hk5.cell (i := 1) rfl
  have hk5c2 := hk5.cell (i := 2) rfl
  have hk5c3 := hk5.cell (i := 3) rfl
  have hk5l := hk5.lt
  go_wp2_with fail
  clear hk2c0 hk2c1 hk2c2 hk2c3 hk2l hk5c0 hk5c1 hk5c2 hk5c3 hk5l
  obtain ⟨wa20, hwa20⟩ : ∃ x, x = (w17.alloc (.cells #[.bool s_18, .slice A_18 n_18 c_18, .bool s_19, .slice A_19 n_19 c_19] 29)) := ⟨_, rfl⟩
  have hup : Up w17 wa20 := by rw [hwa20]; exact ((Up.refl w17).alloc _)
  have howa20 : w13.heap.size < w17.heap.size := hk8.lt
  have hzwa20 : w.heap.size ≤ w17.heap.size := hupw.size
  replace hk2 := hk2.up hup
  replace hk5 := hk5.up hup
  replace hR := hR.up hup
  replace hr10 := hr10.up hup
  replace hupw := hupw.trans hup
  clear hup
  have hk10 : Bk wa20 (w17.heap.size) 29 #[.bool s_18, .slice A_18 n_18 c_18, .bool s_19, .slice A_19 n_19 c_19] := by
    have := (Bk.new w17 29 #[.bool s_18, .slice A_18 n_18 c_18, .bool s_19, .slice A_19 n_19 c_19])
    rw [hwa20]; simpa using this
  rw [← hwa20]
  clear hwa20
  refine (mulN2 _ _ _ ⟨.inl hR, .inr ⟨_, hr10⟩, .inl hR⟩).mono ?_
  rintro e w21 ⟨vf, rfl, hf, hup⟩
  replace hk2 := hk2.up hup
  replace hk5 := hk5.up hup
  replace hk10 := hk10.up hup
  replace hR := hR.up hup
  replace hr10 := hr10.up hup
  replace hupw := hupw.trans hup
  clear hup
  obtain ⟨s_22, A_22, n_22, c_22, s_23, A_23, n_23, c_23, rfl, h_22, h_23⟩ := hf
  have hk5c0 := hk5.cell (i := 0) rfl
  have hk5c1 := hk5.cell (i := 1) rfl
  have hk5c2 := hk5.cell (i := 2) rfl
  have hk5c3 := hk5.cell (i := 3) rfl
  have hk5l := hk5.lt
  have hk2c0 := hk2.cell (i := 0) rfl
  have hk2c1 := hk2.cell (i := 1) rfl
  have hk2c2 := hk2.cell (i := 2) rfl
  have hk2c3 := hk2.cell (i := 3) rfl
  have hk2l := hk2.lt
  go_wp2_with fail
  clear hk5c0 hk5c1 hk5c2 hk5c3 hk5l hk2c0 hk2c1 hk2c2 hk2c3 hk2l
  obtain ⟨wa24, hwa24⟩ : ∃ x, x = (w21.alloc (.cells #[.bool s_22, .slice A_22 n_22 c_22, .bool s_23, .slice A_23 n_23 c_23] 29)) := ⟨_, rfl⟩
  have hup : Up w21 wa24 := by rw [hwa24]; exact ((Up.refl w21).alloc _)
  have howa24 : w17.heap.size < w21.heap.size := hk10.lt
  have hzwa24 : w.heap.size ≤ w21.heap.size := hupw.size
  replace hk2 := hk2.up hup
  replace hk5 := hk5.up hup
  replace hR := hR.up hup
  replace hr10 := hr10.up hup
  replace hupw := hupw.trans hup
  clear hup
  have hk12 : Bk wa24 (w21.heap.size) 29 #[.bool s_22, .slice A_22 n_22 c_22, .bool s_23, .slice A_23 n_23 c_23] := by
    have := (Bk.new w21 29 #[.bool s_22, .slice A_22 n_22 c_22, .bool s_23, .slice A_23 n_23 c_23])
    rw [hwa24]; simpa using this
  rw [← hwa24]
  clear hwa24
  refine (divN2 _ _ _ ⟨.inr ⟨_, hr10⟩, .inl hR, .inr hR⟩).mono ?_
  rintro e w25 ⟨vf, rfl, hf, hup⟩
  replace hk2 := hk2.up hup
  replace hk5 := hk5.up hup
  replace hk12 := hk12.up hup
  replace hR := hR.up hup
  replace hr10 := hr10.up hup
  replace hupw := hupw.trans hup
  clear hup
  obtain ⟨s_26, A_26, n_26, c_26, s_27, A_27, n_27, c_27, rfl, h_26, h_27⟩ := hf
  have hk5c0 := hk5.cell (i := 0) rfl
  have hk5c1 := hk5.cell (i := 1) rfl
  have hk5c2 := hk5.cell (i := 2) rfl
  have hk5c3 := hk5.cell (i := 3) rfl
  have hk5l := hk5.lt
  have hk2c0 := hk2.cell (i := 0) rfl
  have hk2c1 := hk2.cell (i := 1) rfl
  have hk2c2 := hk2.cell (i := 2) rfl
  have hk2c3 := hk2.cell (i := 3) rfl
  have hk2l := hk2.lt
  have hk5l1 : w7.heap.size < w25.heap.size + 1 := by omega
  have hk5l2 : w7.heap.size < w25.heap.size + 1 + 1 := by omega
  have hk2l1 : w.heap.size < w25.heap.size + 1 := by omega
  have hk2l2 : w.heap.size < w25.heap.size + 1 + 1 := by omega
  go_wp2_with fail
  clear hk5c0 hk5c1 hk5c2 hk5c3 hk5l hk2c0 hk2c1 hk2c2 hk2c3 hk2l hk5l1 hk5l2 hk2l1 hk2l2
  obtain ⟨wa28, hwa28⟩ : ∃ x, x = (((w25.alloc (.cells #[.bool s_26, .slice A_26 n_26 c_26, .bool s_27, .slice A_27 n_27 c_27] 29)).alloc (.cells #[.bool s_8, .slice A_8 n_8 c_8, .bool s_9, .slice A_9 n_9 c_9] 29)).alloc (.cells #[.bool s0, .slice A0 n0 c0, .bool t0, .slice B0 m0 d0] 29)) := ⟨_, rfl⟩
  have hup : Up w25 wa28 := by rw [hwa28]; exact ((((Up.refl w25).alloc _).alloc _).alloc _)
  have howa28 : w21.heap.size < w25.heap.size := hk12.lt
  have hzwa28 : w.heap.size ≤ w25.heap.size := hupw.size
  replace hk2 := hk2.up hup
  replace hR := hR.up hup
  replace hr10 := hr10.up hup
  replace hupw := hupw.trans hup
  clear hup
  have hk14 : Bk wa28 (w25.heap.size) 29 #[.bool s_26, .slice A_26 n_26 c_26, .bool s_27, .slice A_27 n_27 c_27] := by
    have := (((Bk.new w25 29 #[.bool s_26, .slice A_26 n_26 c_26, .bool s_27, .slice A_27 n_27 c_27]).alloc (.cells #[.bool s_8, .slice A_8 n_8 c_8, .bool s_9, .slice A_9 n_9 c_9] 29)).alloc (.cells #[.bool s0, .slice A0 n0 c0, .bool t0, .slice B0 m0 d0] 29))
    rw [hwa28]; simpa using this
  have hk73 : Bk wa28 (w25.heap.size + 1) 29 #[.bool s_8, .slice A_8 n_8 c_8, .bool s_9, .slice A_9 n_9 c_9] := by
    have := ((Bk.new (w25.alloc (.cells #[.bool s_26, .slice A_26 n_26 c_26, .bool s_27, .slice A_27 n_27 c_27] 29)) 29 #[.bool s_8, .slice A_8 n_8 c_8, .bool s_9, .slice A_9 n_9 c_9]).alloc (.cells #[.bool s0, .slice A0 n0 c0, .bool t0, .slice B0 m0 d0] 29))
    rw [hwa28]; simpa using this
  have hk75 : Bk wa28 (w25.heap.size + 1 + 1) 29 #[.bool s0, .slice A0 n0 c0, .bool t0, .slice B0 m0 d0] := by
    have := (Bk.new ((w25.alloc (.cells #[.bool s_26, .slice A_26 n_26 c_26, .bool s_27, .slice A_27 n_27 c_27] 29)).alloc (.cells #[.bool s_8, .slice A_8 n_8 c_8, .bool s_9, .slice A_9 n_9 c_9] 29)) 29 #[.bool s0, .slice A0 n0 c0, .bool t0, .slice B0 m0 d0])
    rw [hwa28]; simpa using this
  rw [← hwa28]
  clear hwa28
  refine (dot1_ _ hk73 hk75 ⟨.inr ⟨_, hr10⟩, .inl hR, .inr hR⟩).mono ?_
  rintro e w29 ⟨vf, rfl, hf, hup⟩
  replace hk2 := hk2.up hup
  replace hk75 := hk75.up hup
  replace hR := hR.up hup
  replace hupw := hupw.trans hup
  clear hup
  obtain ⟨s_30, A_30, n_30, c_30, s_31, A_31, n_31, c_31, rfl, h_30, h_31⟩ := hf
  have hk2c0 := hk2.cell (i := 0) rfl
  have hk2c1 := hk2.cell (i := 1) rfl
  have hk2c2 := hk2.cell (i := 2) rfl
  have hk2c3 := hk2.cell (i := 3) rfl
  have hk2l := hk2.lt
  go_wp2_with fail
  clear hk2c0 hk2c1 hk2c2 hk2c3 hk2l
  obtain ⟨wa32, hwa32⟩ : ∃ x, x = (w29.alloc (.cells #[.bool s_30, .slice A_30 n_30 c_30, .bool s_31, .slice A_31 n_31 c_31] 29)) := ⟨_, rfl⟩
  have hup : Up w29 wa32 := by rw [hwa32]; exact ((Up.refl w29).alloc _)
  have howa32 : (w25.heap.size + 1 + 1) < w29.heap.size := hk75.lt
  have hzwa32 : w.heap.size ≤ w29.heap.size := hupw.size
  replace hk2 := hk2.up hup
  replace hR := hR.up hup
  replace hupw := hupw.trans hup
  clear hup
  have hk16 : Bk wa32 (w29.heap.size) 29 #[.bool s_30, .slice A_30 n_30 c_30, .bool s_31, .slice A_31 n_31 c_31] := by
    have := (Bk.new w29 29 #[.bool s_30, .slice A_30 n_30 c_30, .bool s_31, .slice A_31 n_31 c_31])
    rw [hwa32]; simpa using this
  rw [← hwa32]
  clear hwa32
  refine (fmtNQ hR).mono ?_
  rintro e w33 ⟨rfl, hup⟩
  replace hk2 := hk2.up hup
  replace hk16 := hk16.up hup
  replace hR := hR.up hup
  replace hupw := hupw.trans hup
  clear hup
  have hk2c0 := hk2.cell (i := 0) rfl
  have hk2c1 := hk2.cell (i := 1) rfl
  have hk2c2 := hk2.cell (i := 2) rfl
  have hk2c3 := hk2.cell (i := 3) rfl
  have hk2l := hk2.lt
  go_wp2_with fail
  clear hk2c0 hk2c1 hk2c2 hk2c3 hk2l
  refine (decN (-1) _ _ hR).mono ?_
  rintro e w34 ⟨rfl, hup⟩
  replace hk16 := hk16.up hup
  replace hupw := hupw.trans hup
  clear hup
  go_wp2_with fail
  obtain ⟨wa35, hwa35⟩ : ∃ x, x = (w34.alloc (.cells #[.int .i64 1, .int .i64 1, .int .i64 1, .int .i64 1, .int .i64 1, .int .i64 1, .int .i64 1, .int .i64 1] 30)) := ⟨_, rfl⟩
  have hup : Up w34 wa35 := by rw [hwa35]; exact ((Up.refl w34).alloc _)
  have howa35 : w29.heap.size < w34.heap.size := hk16.lt
  have hzwa35 : w.heap.size ≤ w34.heap.size := hupw.size
  replace hupw := hupw.trans hup
  clear hup
  have hk97 : Bk wa35 (w34.heap.size) 30 #[.int .i64 1, .int .i64 1, .int .i64 1, .int .i64 1, .int .i64 1, .int .i64 1, .int .i64 1, .int .i64 1] := by
    have := (Bk.new w34 30 #[.int .i64 1, .int .i64 1, .int .i64 1, .int .i64 1, .int .i64 1, .int .i64 1, .int .i64 1, .int .i64 1])
    rw [hwa35]; simpa using this
  rw [← hwa35]
  clear hwa35
  go_loop [99] (fun i => ∃ k : Nat, k ≤ 8 ∧ i = .int .i64 k) (fun i => 8 - (intOf i).toNat)
  case atStart => exact ⟨0, by omega, rfl⟩
  case round =>
    obtain ⟨k, hk, rfl⟩ := hrel
    by_cases hlt : k < 8
    · have hcell : wa35.cell? ⟨w34.heap.size, k, none⟩ = some (.int .i64 1) := hk97.cell (by rcases (show k = 0 ∨ k = 1 ∨ k = 2 ∨ k = 3 ∨ k = 4 ∨ k = 5 ∨ k = 6 ∨ k = 7 by omega) with rfl | rfl | rfl | rfl | rfl | rfl | rfl | rfl <;> rfl)
      have hcell0 : wa35.cell? ⟨w34.heap.size, 0 + k, none⟩ = some (.int .i64 1) := by rw [Nat.zero_add]; exact hcell
      go_wp2
      go_round
      case rel => exact ⟨k + 1, by omega, by go_num⟩
      case measure => simp [intOf]; omega
    · obtain rfl : k = 8 := by omega
      go_wp2_with fail
      go_ret
      exact ⟨rfl, hupw⟩
set_option maxRecDepth 100000 in
theorem validW (v u : Value) (w : World) (hp : Pow w) (h : Gz w v RawIn RawIn) (h' : Gz w u RawIn RawIn) : Calls Tryz.prog 4 #[v, u] w fun e w' => e = .returned (.bool true) ∧ Up w w' := by
  obtain ⟨x, hx⟩ := Dz.of h'
  obtain ⟨s, A, n, c, t, B, m, d, rfl, r0, r1⟩ := h
  obtain ⟨s', A', n', c', l, e0, h1, h2, h3, h4, h5⟩ := r0
  obtain ⟨t', B', m', d', k, e1, k1, k2, k3, k4, k5⟩ := r1
  simp only [Value.agg.injEq, Array.mk.injEq, List.cons.injEq, Value.bool.injEq, Value.slice.injEq, and_true] at e0 e1
  obtain ⟨rfl, rfl, rfl, rfl⟩ := e0
  obtain ⟨rfl, rfl, rfl, rfl⟩ := e1
  by_cases hn : (n : Int) ≤ 36
  · by_cases hm : (m : Int) ≤ 36
    · have hf := fun W => few_yy s t A B n c m d W (decide_eq_true hn) (decide_eq_true hm)
      have a0 : Az w (.agg #[.bool s, .slice A n c]) := ⟨s, l, ⟨A, n, c, rfl, h1, h3, h5⟩, h2, by have := h3.out; omega⟩
      have a1 : Az w (.agg #[.bool t, .slice B m d]) := ⟨t, k, ⟨B, m, d, rfl, k1, k3, k5⟩, k2, by have := k3.out; omega⟩
      have bad := fun hN => valid_bad s t A B n c m d u w hx hp hf hN
      rcases a1.or with b1 | ⟨q, b1⟩
      · exact bad (.inl ⟨s, A, n, c, t, B, m, d, rfl, a0, b1⟩)
      · rcases a0.or with b0 | ⟨p, b0⟩
        · exact bad (.inr (.inl ⟨s, A, n, c, t, B, m, d, rfl, b0, a1⟩))
        · cases hl : lowB p q with
          | false => exact bad (.inr (.inr ⟨p, q, Fz.mk b0 b1, hl⟩))
          | true =>
            obtain ⟨e1, e2⟩ := low_of hl
            exact valid_ok s t A B n c m d u w hx hp hf (Fz.congr (Fz.mk b0 b1) e1.symm e2.symm)
    · exact valid_few s t A B n c m d u w hx hp (fun W => few_yn s t A B n c m d W (decide_eq_true hn) (decide_eq_false hm))
  · exact valid_few s t A B n c m d u w hx hp (fun W => few_n s t A B n c m d W (decide_eq_false hn))

end Go.Proofs.YtldifgfpecicnaaGreatDoor
