/- The law of Decimal. -/
import Derived.Test.YtldifgfpecicnaaGreatDoorR16
import Derived.Test.YtldifgfpecicnaaGreatDoorRDec
import Derived.Test.YtldifgfpecicnaaGreatDoorR8
namespace Go.Proofs.YtldifgfpecicnaaGreatDoor
open Go.RowKit

set_option maxRecDepth 100000 in
set_option maxHeartbeats 4000000 in
theorem decimal_x {r : Rat} (z : Int) (v0 : Value) (w : World) (f0 : Dz w v0 r) (hp : Pow w) (hz : z < 0 ∨ 20 < z) :
    Calls Tryz.prog 11 #[v0, .int .i64 z] w (PB w true) := by
  have D0 := f0
  obtain ⟨s0, A0, n0, c0, t0, B0, m0, d0, rfl⟩ := f0.agg4
  clear f0
  have hupw : Up w w := Up.refl w
  go_enter Tryz.func11, Tryz.ntmps11
  go_wp2_with fail
  obtain ⟨wa1, hwa1⟩ : ∃ x, x = (w.alloc (.cells #[.bool s0, .slice A0 n0 c0, .bool t0, .slice B0 m0 d0] 39)) := ⟨_, rfl⟩
  have hup : Up w wa1 := by rw [hwa1]; exact ((Up.refl w).alloc _)
  have hzwa1 : w.heap.size ≤ w.heap.size := hupw.size
  replace D0 := D0.up hup
  replace hupw := hupw.trans hup
  clear hup
  have hk2 : Bk wa1 (w.heap.size) 39 #[.bool s0, .slice A0 n0 c0, .bool t0, .slice B0 m0 d0] := by
    have := (Bk.new w 39 #[.bool s0, .slice A0 n0 c0, .bool t0, .slice B0 m0 d0])
    rw [hwa1]; simpa using this
  rw [← hwa1]
  clear hwa1
  refine (awakeQ (hp.up hupw)).mono ?_
  rintro e w2 ⟨rfl, hup⟩
  replace hk2 := hk2.up hup
  replace D0 := D0.up hup
  replace hupw := hupw.trans hup
  clear hup
  have hk2c0 := hk2.cell (i := 0) rfl
  have hk2c1 := hk2.cell (i := 1) rfl
  have hk2c2 := hk2.cell (i := 2) rfl
  have hk2c3 := hk2.cell (i := 3) rfl
  have hk2l := hk2.lt
  go_wp2_with fail
  clear hk2c0 hk2c1 hk2c2 hk2c3 hk2l
  refine (made_r D0).mono ?_
  rintro e w3 ⟨vf, rfl, hf, hup⟩
  replace hk2 := hk2.up hup
  replace D0 := D0.up hup
  replace hupw := hupw.trans hup
  clear hup
  have hr6 := hf
  obtain ⟨s_4, A_4, n_4, c_4, s_5, A_5, n_5, c_5, rfl⟩ := hr6.agg4
  go_wp2_with fail
  refine (decXQ hr6 z hz).mono ?_
  rintro e w7 ⟨rfl, hup⟩
  replace hk2 := hk2.up hup
  replace D0 := D0.up hup
  replace hupw := hupw.trans hup
  clear hup
  have hk2c0 := hk2.cell (i := 0) rfl
  have hk2c1 := hk2.cell (i := 1) rfl
  have hk2c2 := hk2.cell (i := 2) rfl
  have hk2c3 := hk2.cell (i := 3) rfl
  have hk2l := hk2.lt
  go_wp2_with fail
  clear hk2c0 hk2c1 hk2c2 hk2c3 hk2l
  refine (made_r D0).mono ?_
  rintro e w8 ⟨vf, rfl, hf, hup⟩
  replace hupw := hupw.trans hup
  clear hup
  have hr11 := hf
  obtain ⟨s_9, A_9, n_9, c_9, s_10, A_10, n_10, c_10, rfl⟩ := hr11.agg4
  go_wp2_with fail
  refine (rdecXQ hr11 z hz).mono ?_
  rintro e w12 ⟨rfl, hup⟩
  replace hupw := hupw.trans hup
  clear hup
  go_wp2_with fail
  go_ret
  exact ⟨rfl, hupw⟩
set_option maxRecDepth 100000 in
set_option maxHeartbeats 4000000 in
theorem decimal_d {r : Rat} (d : Nat) (v0 : Value) (w : World) (f0 : Dz w v0 r) (hp : Pow w) (hd : d ≤ 20) :
    Calls Tryz.prog 11 #[v0, .int .i64 (d : Int)] w (PB w true) := by
  have D0 := f0
  obtain ⟨s0, A0, n0, c0, t0, B0, m0, d0, rfl⟩ := f0.agg4
  clear f0
  have hupw : Up w w := Up.refl w
  go_enter Tryz.func11, Tryz.ntmps11
  go_wp2_with fail
  obtain ⟨wa1, hwa1⟩ : ∃ x, x = (w.alloc (.cells #[.bool s0, .slice A0 n0 c0, .bool t0, .slice B0 m0 d0] 39)) := ⟨_, rfl⟩
  have hup : Up w wa1 := by rw [hwa1]; exact ((Up.refl w).alloc _)
  have hzwa1 : w.heap.size ≤ w.heap.size := hupw.size
  replace D0 := D0.up hup
  replace hupw := hupw.trans hup
  clear hup
  have hk2 : Bk wa1 (w.heap.size) 39 #[.bool s0, .slice A0 n0 c0, .bool t0, .slice B0 m0 d0] := by
    have := (Bk.new w 39 #[.bool s0, .slice A0 n0 c0, .bool t0, .slice B0 m0 d0])
    rw [hwa1]; simpa using this
  rw [← hwa1]
  clear hwa1
  refine (awakeQ (hp.up hupw)).mono ?_
  rintro e w2 ⟨rfl, hup⟩
  replace hk2 := hk2.up hup
  replace D0 := D0.up hup
  replace hupw := hupw.trans hup
  clear hup
  have hk2c0 := hk2.cell (i := 0) rfl
  have hk2c1 := hk2.cell (i := 1) rfl
  have hk2c2 := hk2.cell (i := 2) rfl
  have hk2c3 := hk2.cell (i := 3) rfl
  have hk2l := hk2.lt
  go_wp2_with fail
  clear hk2c0 hk2c1 hk2c2 hk2c3 hk2l
  refine (made_r D0).mono ?_
  rintro e w3 ⟨vf, rfl, hf, hup⟩
  replace hk2 := hk2.up hup
  replace D0 := D0.up hup
  replace hupw := hupw.trans hup
  clear hup
  have hr6 := hf
  obtain ⟨s_4, A_4, n_4, c_4, s_5, A_5, n_5, c_5, rfl⟩ := hr6.agg4
  go_wp2_with fail
  refine (decRQ hr6 (hp.up hupw) d hd).mono ?_
  rintro e w7 ⟨rfl, hup⟩
  replace hk2 := hk2.up hup
  replace D0 := D0.up hup
  replace hupw := hupw.trans hup
  clear hup
  have hk2c0 := hk2.cell (i := 0) rfl
  have hk2c1 := hk2.cell (i := 1) rfl
  have hk2c2 := hk2.cell (i := 2) rfl
  have hk2c3 := hk2.cell (i := 3) rfl
  have hk2l := hk2.lt
  go_wp2_with fail
  clear hk2c0 hk2c1 hk2c2 hk2c3 hk2l
  refine (made_r D0).mono ?_
  rintro e w8 ⟨vf, rfl, hf, hup⟩
  replace hupw := hupw.trans hup
  clear hup
  have hr11 := hf
  obtain ⟨s_9, A_9, n_9, c_9, s_10, A_10, n_10, c_10, rfl⟩ := hr11.agg4
  go_wp2_with fail
  refine (rdecRQ hr11 d hd).mono ?_
  rintro e w12 ⟨rfl, hup⟩
  replace hupw := hupw.trans hup
  clear hup
  go_wp2_with fail
  go_ret
  exact ⟨rfl, hupw⟩
theorem decimalW (v : Value) (z : Int) (w : World) (hp : Pow w) (h : Gz w v RawIn RawIn) (_hz : (Lit.int .i64 z).wf = true) : Calls Tryz.prog 11 #[v, .int .i64 z] w fun e w' => e = .returned (.bool true) ∧ Up w w' := by
  obtain ⟨r, h⟩ := Dz.of h
  by_cases hz : z < 0 ∨ 20 < z
  · exact decimal_x z v w h hp hz
  · obtain ⟨d, rfl⟩ : ∃ d : Nat, z = d := ⟨z.toNat, by omega⟩
    exact decimal_d d v w h hp (by omega)

end Go.Proofs.YtldifgfpecicnaaGreatDoor
