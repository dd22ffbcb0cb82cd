/- The law of texts. -/
import Derived.Test.YtldifgfpecicnaaGreatDoorRBack
import Derived.Test.YtldifgfpecicnaaGreatDoorR8
namespace Go.Proofs.YtldifgfpecicnaaGreatDoor
open Go.RowKit

set_option maxRecDepth 100000 in
set_option maxHeartbeats 4000000 in
theorem textsW_ {r : Rat} (v0 : Value) (w : World) (f0 : Dz w v0 r) (hp : Pow w) :
    Calls Tryz.prog 9 #[v0] w (PB w true) := by
  have D0 := f0
  obtain ⟨s0, A0, n0, c0, t0, B0, m0, d0, rfl⟩ := f0.agg4
  clear f0
  have hupw : Up w w := Up.refl w
  go_enter Tryz.func9, Tryz.ntmps9
  go_wp2_with fail
  obtain ⟨wa1, hwa1⟩ : ∃ x, x = (w.alloc (.cells #[.bool s0, .slice A0 n0 c0, .bool t0, .slice B0 m0 d0] 39)) := ⟨_, rfl⟩
  have hup : Up w wa1 := by rw [hwa1]; exact ((Up.refl w).alloc _)
  have hzwa1 : w.heap.size ≤ w.heap.size := hupw.size
  replace D0 := D0.up hup
  replace hupw := hupw.trans hup
  clear hup
  have hk1 : Bk wa1 (w.heap.size) 39 #[.bool s0, .slice A0 n0 c0, .bool t0, .slice B0 m0 d0] := by
    have := (Bk.new w 39 #[.bool s0, .slice A0 n0 c0, .bool t0, .slice B0 m0 d0])
    rw [hwa1]; simpa using this
  rw [← hwa1]
  clear hwa1
  refine (awakeQ (hp.up hupw)).mono ?_
  rintro e w2 ⟨rfl, hup⟩
  replace hk1 := hk1.up hup
  replace D0 := D0.up hup
  replace hupw := hupw.trans hup
  clear hup
  have hk1c0 := hk1.cell (i := 0) rfl
  have hk1c1 := hk1.cell (i := 1) rfl
  have hk1c2 := hk1.cell (i := 2) rfl
  have hk1c3 := hk1.cell (i := 3) rfl
  have hk1l := hk1.lt
  go_wp2_with fail
  clear hk1c0 hk1c1 hk1c2 hk1c3 hk1l
  refine (made_r D0).mono ?_
  rintro e w3 ⟨vf, rfl, hf, hup⟩
  replace hk1 := hk1.up hup
  replace hupw := hupw.trans hup
  clear hup
  have hr6 := hf
  obtain ⟨s_4, A_4, n_4, c_4, s_5, A_5, n_5, c_5, rfl⟩ := hr6.agg4
  go_wp2_with fail
  obtain ⟨wa7, hwa7⟩ : ∃ x, x = (w3.alloc (.cells #[.bool s_4, .slice A_4 n_4 c_4, .bool s_5, .slice A_5 n_5 c_5] 29)) := ⟨_, rfl⟩
  have hup : Up w3 wa7 := by rw [hwa7]; exact ((Up.refl w3).alloc _)
  have howa7 : w.heap.size < w3.heap.size := hk1.lt
  have hzwa7 : w.heap.size ≤ w3.heap.size := hupw.size
  replace hr6 := hr6.up hup
  replace hupw := hupw.trans hup
  clear hup
  have hk3 : Bk wa7 (w3.heap.size) 29 #[.bool s_4, .slice A_4 n_4 c_4, .bool s_5, .slice A_5 n_5 c_5] := by
    have := (Bk.new w3 29 #[.bool s_4, .slice A_4 n_4 c_4, .bool s_5, .slice A_5 n_5 c_5])
    rw [hwa7]; simpa using this
  rw [← hwa7]
  clear hwa7
  refine (fmtRQ hr6 (hp.up hupw)).mono ?_
  rintro e w8 ⟨rfl, hup⟩
  replace hk3 := hk3.up hup
  replace hr6 := hr6.up hup
  replace hupw := hupw.trans hup
  clear hup
  have hk3c0 := hk3.cell (i := 0) rfl
  have hk3c1 := hk3.cell (i := 1) rfl
  have hk3c2 := hk3.cell (i := 2) rfl
  have hk3c3 := hk3.cell (i := 3) rfl
  have hk3l := hk3.lt
  go_wp2_with fail
  clear hk3c0 hk3c1 hk3c2 hk3c3 hk3l
  refine (rfmtRQ hr6).mono ?_
  rintro e w9 ⟨rfl, hup⟩
  replace hk3 := hk3.up hup
  replace hr6 := hr6.up hup
  replace hupw := hupw.trans hup
  clear hup
  go_wp2_with fail
  refine (backQ hr6 (hp.up hupw)).mono ?_
  rintro e w10 ⟨vf, rfl, hf, hup⟩
  replace hk3 := hk3.up hup
  replace hr6 := hr6.up hup
  replace hupw := hupw.trans hup
  clear hup
  obtain ⟨s_11, A_11, n_11, c_11, s_12, A_12, n_12, c_12, rfl, h_11, h_12⟩ := hf
  have hk3c0 := hk3.cell (i := 0) rfl
  have hk3c1 := hk3.cell (i := 1) rfl
  have hk3c2 := hk3.cell (i := 2) rfl
  have hk3c3 := hk3.cell (i := 3) rfl
  have hk3l := hk3.lt
  go_wp2_with fail
  clear hk3c0 hk3c1 hk3c2 hk3c3 hk3l
  obtain ⟨wa13, hwa13⟩ : ∃ x, x = (w10.alloc (.cells #[.bool s_11, .slice A_11 n_11 c_11, .bool s_12, .slice A_12 n_12 c_12] 29)) := ⟨_, rfl⟩
  have hup : Up w10 wa13 := by rw [hwa13]; exact ((Up.refl w10).alloc _)
  have howa13 : w3.heap.size < w10.heap.size := hk3.lt
  have hzwa13 : w.heap.size ≤ w10.heap.size := hupw.size
  replace hr6 := hr6.up hup
  replace h_11 := h_11.up hup
  replace h_12 := h_12.up hup
  replace hupw := hupw.trans hup
  clear hup
  have hk8 : Bk wa13 (w10.heap.size) 29 #[.bool s_11, .slice A_11 n_11 c_11, .bool s_12, .slice A_12 n_12 c_12] := by
    have := (Bk.new w10 29 #[.bool s_11, .slice A_11 n_11 c_11, .bool s_12, .slice A_12 n_12 c_12])
    rw [hwa13]; simpa using this
  rw [← hwa13]
  clear hwa13
  refine (requalF _ _ _ (Fz.mk h_11 h_12) hr6).mono ?_
  rintro e w14 ⟨rfl, hup⟩
  replace hupw := hupw.trans hup
  clear hup
  go_wp2_with fail
  go_ret
  exact ⟨rfl, hupw⟩
theorem textsW (v : Value) (w : World) (hp : Pow w) (h : Gz w v RawIn RawIn) : Calls Tryz.prog 9 #[v] w fun e w' => e = .returned (.bool true) ∧ Up w w' := by
  obtain ⟨r, h⟩ := Dz.of h
  exact textsW_ v w h hp

end Go.Proofs.YtldifgfpecicnaaGreatDoor
