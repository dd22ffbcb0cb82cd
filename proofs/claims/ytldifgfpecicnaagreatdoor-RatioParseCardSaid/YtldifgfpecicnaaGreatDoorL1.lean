/- The law of Parse. -/
import Derived.Test.YtldifgfpecicnaaGreatDoorR16
import Derived.Test.YtldifgfpecicnaaGreatDoorR11
namespace Go.Proofs.YtldifgfpecicnaaGreatDoor
open Go.RowKit

set_option maxRecDepth 100000 in
set_option maxHeartbeats 4000000 in
theorem parseW_0 (s : ByteArray) (w : World)  (hp : Pow w) (hs : s.size ≤ 700) :
    Calls Tryz.prog 10 #[.string s] w (PB w true) := by
  have hupw : Up w w := Up.refl w
  go_enter Tryz.func10, Tryz.ntmps10
  go_wp2_with fail
  refine (awakeQ (hp.up hupw)).mono ?_
  rintro e w1 ⟨rfl, hup⟩
  replace hupw := hupw.trans hup
  clear hup
  go_wp2_with fail
  refine (parseRQ s (by omega) (hp.up hupw)).mono ?_
  rintro e w2 ⟨vf, rfl, hf, hup⟩
  replace hupw := hupw.trans hup
  clear hup
  obtain ⟨s_3, A_3, n_3, c_3, s_4, A_4, n_4, c_4, rfl, h_3, h_4⟩ := hf
  go_wp2_with fail
  obtain ⟨wa5, hwa5⟩ : ∃ x, x = (w2.alloc (.cells #[.bool s_3, .slice A_3 n_3 c_3, .bool s_4, .slice A_4 n_4 c_4] 29)) := ⟨_, rfl⟩
  have hup : Up w2 wa5 := by rw [hwa5]; exact ((Up.refl w2).alloc _)
  have hzwa5 : w.heap.size ≤ w2.heap.size := hupw.size
  replace h_3 := h_3.up hup
  replace h_4 := h_4.up hup
  replace hupw := hupw.trans hup
  clear hup
  have hk3 : Bk wa5 (w2.heap.size) 29 #[.bool s_3, .slice A_3 n_3 c_3, .bool s_4, .slice A_4 n_4 c_4] := by
    have := (Bk.new w2 29 #[.bool s_3, .slice A_3 n_3 c_3, .bool s_4, .slice A_4 n_4 c_4])
    rw [hwa5]; simpa using this
  rw [← hwa5]
  clear hwa5
  refine (rparseRQ s (by omega)).mono ?_
  rintro e w6 ⟨vf, rfl, hf, hup⟩
  replace hk3 := hk3.up hup
  replace h_3 := h_3.up hup
  replace h_4 := h_4.up hup
  replace hupw := hupw.trans hup
  clear hup
  obtain ⟨s_7, A_7, n_7, c_7, s_8, A_8, n_8, c_8, rfl, h_7, h_8⟩ := hf
  have hk3c0 := hk3.cell (i := 0) rfl
  have hk3c1 := hk3.cell (i := 1) rfl
  have hk3c2 := hk3.cell (i := 2) rfl
  have hk3c3 := hk3.cell (i := 3) rfl
  have hk3l := hk3.lt
  go_wp2_with fail
  clear hk3c0 hk3c1 hk3c2 hk3c3 hk3l
  obtain ⟨wa9, hwa9⟩ : ∃ x, x = (w6.alloc (.cells #[.bool s_7, .slice A_7 n_7 c_7, .bool s_8, .slice A_8 n_8 c_8] 29)) := ⟨_, rfl⟩
  have hup : Up w6 wa9 := by rw [hwa9]; exact ((Up.refl w6).alloc _)
  have howa9 : w2.heap.size < w6.heap.size := hk3.lt
  have hzwa9 : w.heap.size ≤ w6.heap.size := hupw.size
  replace h_3 := h_3.up hup
  replace h_4 := h_4.up hup
  replace h_7 := h_7.up hup
  replace h_8 := h_8.up hup
  replace hupw := hupw.trans hup
  clear hup
  have hk5 : Bk wa9 (w6.heap.size) 29 #[.bool s_7, .slice A_7 n_7 c_7, .bool s_8, .slice A_8 n_8 c_8] := by
    have := (Bk.new w6 29 #[.bool s_7, .slice A_7 n_7 c_7, .bool s_8, .slice A_8 n_8 c_8])
    rw [hwa9]; simpa using this
  rw [← hwa9]
  clear hwa9
  refine (requalF _ _ _ (Fz.mk h_3 h_4) (Fz.mk h_7 h_8)).mono ?_
  rintro e w10 ⟨rfl, hup⟩
  replace hupw := hupw.trans hup
  clear hup
  go_wp2_with fail
  go_ret
  exact ⟨rfl, hupw⟩
set_option maxRecDepth 100000 in
set_option maxHeartbeats 4000000 in
theorem parseW_1 (s : ByteArray) (w : World)  (hp : Pow w) (_hs : 700 < s.size) :
    Calls Tryz.prog 10 #[.string s] w (PB w true) := by
  have hupw : Up w w := Up.refl w
  go_enter Tryz.func10, Tryz.ntmps10
  go_wp2_with fail
  refine (awakeQ (hp.up hupw)).mono ?_
  rintro e w1 ⟨rfl, hup⟩
  replace hupw := hupw.trans hup
  clear hup
  go_wp2_with fail
  refine (awakeQ (hp.up hupw)).mono ?_
  rintro e w2 ⟨rfl, hup⟩
  replace hupw := hupw.trans hup
  clear hup
  go_wp2_with fail
  go_ret
  exact ⟨rfl, hupw⟩
theorem parseW (s : ByteArray) (w : World) (hp : Pow w) (_hs : s.size ≤ maxLen) : Calls Tryz.prog 10 #[.string s] w fun e w' => e = .returned (.bool true) ∧ Up w w' := by
  by_cases h : s.size ≤ 700
  · exact parseW_0 s w hp h
  · exact parseW_1 s w hp (by omega)

end Go.Proofs.YtldifgfpecicnaaGreatDoor
