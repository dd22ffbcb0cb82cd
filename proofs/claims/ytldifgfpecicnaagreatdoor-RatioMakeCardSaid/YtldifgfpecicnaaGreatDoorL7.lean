/- The law of Make and Of. -/
import Derived.Test.YtldifgfpecicnaaGreatDoorR16
import Derived.Test.YtldifgfpecicnaaGreatDoorRRaw
import Derived.Test.YtldifgfpecicnaaGreatDoorOpen
namespace Go.Proofs.YtldifgfpecicnaaGreatDoor
open Go.RowKit

/-- Two raw integers, one of which is not valid. -/
def Bo (w : World) (v v' : Value) : Prop := Az w v ∧ Az w v' ∧ (Bz w v ∨ Bz w v')
section
variable {w w' : World} {v v' : Value}
set_option maxRecDepth 100000 in
theorem Bo.up (h : Bo w v v') (hu : Up w w') : Bo w' v v' := ⟨h.1.up hu, h.2.1.up hu, h.2.2.imp (fun k => k.up hu) fun k => k.up hu⟩
set_option maxRecDepth 100000 in
theorem Bo.st2 {g : Nat} {t : TypeId} {cs : Array Value} (h : Bo w v v') (hb : Bk w g t cs) (hn : NoU cs) (x y : Value) : Bo ((w.setCell ⟨g, 0, none⟩ x).setCell ⟨g, 1, none⟩ y) v v' := ⟨h.1.st2 hb hn x y, h.2.1.st2 hb hn x y, h.2.2.imp (fun k => k.st2 hb hn x y) fun k => k.st2 hb hn x y⟩
set_option maxRecDepth 100000 in
theorem Bo.st4 {g : Nat} {t : TypeId} {cs : Array Value} (h : Bo w v v') (hb : Bk w g t cs) (hn : NoU cs) (x y a b : Value) : Bo (Go.Proofs.YtldifgfpecicnaaGreatDoor.st4 w g x y a b) v v' := ⟨h.1.st4 hb hn x y a b, h.2.1.st4 hb hn x y a b, h.2.2.imp (fun k => k.st4 hb hn x y a b) fun k => k.st4 hb hn x y a b⟩
set_option maxRecDepth 100000 in
theorem makeB2 (h : Bo w v v') : Calls Tryz.prog 14 #[v, v'] w (PFE w 0 0 1) := makeB h.1 h.2.1 h.2.2
set_option maxRecDepth 100000 in
theorem rmakeB2 (h : Bo w v v') : Calls Tryz.prog 15 #[v, v'] w (PFE w 0 0 1) := rmakeB h.1 h.2.1 h.2.2
set_option maxRecDepth 100000 in
theorem makeR0 {x y : Int} (h : Iz w v x) (h' : Iz w v' y) (e : makeR x y = noR 8) : Calls Tryz.prog 14 #[v, v'] w (PFE w 0 0 8) := by
  have := makeQ h h'
  rw [e] at this; exact this
set_option maxRecDepth 100000 in
theorem rmakeR0 {x y : Int} (h : Iz w v x) (h' : Iz w v' y) (e : makeR x y = noR 8) : Calls Tryz.prog 15 #[v, v'] w (PFE w 0 0 8) := by
  have := rmakeQ h h'
  rw [e] at this; exact this
set_option maxRecDepth 100000 in
theorem makeR1 {x y : Int} {r : Rat} (h : Iz w v x) (h' : Iz w v' y) (e : makeR x y = okR r) : Calls Tryz.prog 14 #[v, v'] w (PFE w (nm r) (dn r) 0) := by
  have := makeQ h h'
  rw [e] at this; exact this
set_option maxRecDepth 100000 in
theorem rmakeR1 {x y : Int} {r : Rat} (h : Iz w v x) (h' : Iz w v' y) (e : makeR x y = okR r) : Calls Tryz.prog 15 #[v, v'] w (PFE w (nm r) (dn r) 0) := by
  have := rmakeQ h h'
  rw [e] at this; exact this
set_option maxRecDepth 100000 in
theorem fewT (s : Bool) (A : Option Addr) (c n : Nat) (b : Bool) (w : World) (h : decide ((n : Int) ≤ 36) = b) : Calls Tryz.prog 13 #[.agg #[.bool s, .slice A n c], .int .i64 36] w (PB w b) := by
  rw [← h]; exact few_any s A c n 36 w
end
set_option maxRecDepth 100000 in
set_option maxHeartbeats 4000000 in
theorem makeW_x (s0 s1 : Bool) (A0 A1 : Option Addr) (n0 c0 n1 c1 : Nat) (a b : Int) (w : World)  (hp : Pow w) (hn0 : decide ((n0 : Int) ≤ 36) = false) :
    Calls Tryz.prog 3 #[.agg #[.bool s0, .slice A0 n0 c0], .agg #[.bool s1, .slice A1 n1 c1], .agg #[.int .i64 a, .int .i64 b]] w (PB w true) := by
  have hupw : Up w w := Up.refl w
  go_enter Tryz.func3, Tryz.ntmps3
  go_wp2_with fail
  obtain ⟨wa1, hwa1⟩ : ∃ x, x = (((w.alloc (.cells #[.bool s0, .slice A0 n0 c0] 24)).alloc (.cells #[.bool s1, .slice A1 n1 c1] 24)).alloc (.cells #[.int .i64 a, .int .i64 b] 25)) := ⟨_, rfl⟩
  have hup : Up w wa1 := by rw [hwa1]; exact ((((Up.refl w).alloc _).alloc _).alloc _)
  have hzwa1 : w.heap.size ≤ w.heap.size := hupw.size
  replace hupw := hupw.trans hup
  clear hup
  have hk3 : Bk wa1 (w.heap.size) 24 #[.bool s0, .slice A0 n0 c0] := by
    have := (((Bk.new w 24 #[.bool s0, .slice A0 n0 c0]).alloc (.cells #[.bool s1, .slice A1 n1 c1] 24)).alloc (.cells #[.int .i64 a, .int .i64 b] 25))
    rw [hwa1]; simpa using this
  have hk4 : Bk wa1 (w.heap.size + 1) 24 #[.bool s1, .slice A1 n1 c1] := by
    have := ((Bk.new (w.alloc (.cells #[.bool s0, .slice A0 n0 c0] 24)) 24 #[.bool s1, .slice A1 n1 c1]).alloc (.cells #[.int .i64 a, .int .i64 b] 25))
    rw [hwa1]; simpa using this
  have hk5 : Bk wa1 (w.heap.size + 1 + 1) 25 #[.int .i64 a, .int .i64 b] := by
    have := (Bk.new ((w.alloc (.cells #[.bool s0, .slice A0 n0 c0] 24)).alloc (.cells #[.bool s1, .slice A1 n1 c1] 24)) 25 #[.int .i64 a, .int .i64 b])
    rw [hwa1]; simpa using this
  rw [← hwa1]
  clear hwa1
  refine (awakeQ (hp.up hupw)).mono ?_
  rintro e w2 ⟨rfl, hup⟩
  replace hk3 := hk3.up hup
  replace hupw := hupw.trans hup
  clear hup
  have hk3c0 := hk3.cell (i := 0) rfl
  have hk3c1 := hk3.cell (i := 1) rfl
  have hk3l := hk3.lt
  go_wp2_with fail
  clear hk3c0 hk3c1 hk3l
  refine (fewT s0 A0 c0 n0 false _ hn0).mono ?_
  rintro e w3 ⟨rfl, hup⟩
  replace hupw := hupw.trans hup
  clear hup
  go_wp2_with fail
  refine (awakeQ (hp.up hupw)).mono ?_
  rintro e w4 ⟨rfl, hup⟩
  replace hupw := hupw.trans hup
  clear hup
  go_wp2_with fail
  go_ret
  exact ⟨rfl, hupw⟩
set_option maxRecDepth 100000 in
set_option maxHeartbeats 4000000 in
theorem makeW_y (s0 s1 : Bool) (A0 A1 : Option Addr) (n0 c0 n1 c1 : Nat) (a b : Int) (w : World)  (hp : Pow w) (hn0 : decide ((n0 : Int) ≤ 36) = true) (hn1 : decide ((n1 : Int) ≤ 36) = false) :
    Calls Tryz.prog 3 #[.agg #[.bool s0, .slice A0 n0 c0], .agg #[.bool s1, .slice A1 n1 c1], .agg #[.int .i64 a, .int .i64 b]] w (PB w true) := by
  have hupw : Up w w := Up.refl w
  go_enter Tryz.func3, Tryz.ntmps3
  go_wp2_with fail
  obtain ⟨wa1, hwa1⟩ : ∃ x, x = (((w.alloc (.cells #[.bool s0, .slice A0 n0 c0] 24)).alloc (.cells #[.bool s1, .slice A1 n1 c1] 24)).alloc (.cells #[.int .i64 a, .int .i64 b] 25)) := ⟨_, rfl⟩
  have hup : Up w wa1 := by rw [hwa1]; exact ((((Up.refl w).alloc _).alloc _).alloc _)
  have hzwa1 : w.heap.size ≤ w.heap.size := hupw.size
  replace hupw := hupw.trans hup
  clear hup
  have hk3 : Bk wa1 (w.heap.size) 24 #[.bool s0, .slice A0 n0 c0] := by
    have := (((Bk.new w 24 #[.bool s0, .slice A0 n0 c0]).alloc (.cells #[.bool s1, .slice A1 n1 c1] 24)).alloc (.cells #[.int .i64 a, .int .i64 b] 25))
    rw [hwa1]; simpa using this
  have hk4 : Bk wa1 (w.heap.size + 1) 24 #[.bool s1, .slice A1 n1 c1] := by
    have := ((Bk.new (w.alloc (.cells #[.bool s0, .slice A0 n0 c0] 24)) 24 #[.bool s1, .slice A1 n1 c1]).alloc (.cells #[.int .i64 a, .int .i64 b] 25))
    rw [hwa1]; simpa using this
  have hk5 : Bk wa1 (w.heap.size + 1 + 1) 25 #[.int .i64 a, .int .i64 b] := by
    have := (Bk.new ((w.alloc (.cells #[.bool s0, .slice A0 n0 c0] 24)).alloc (.cells #[.bool s1, .slice A1 n1 c1] 24)) 25 #[.int .i64 a, .int .i64 b])
    rw [hwa1]; simpa using this
  rw [← hwa1]
  clear hwa1
  refine (awakeQ (hp.up hupw)).mono ?_
  rintro e w2 ⟨rfl, hup⟩
  replace hk3 := hk3.up hup
  replace hk4 := hk4.up hup
  replace hupw := hupw.trans hup
  clear hup
  have hk3c0 := hk3.cell (i := 0) rfl
  have hk3c1 := hk3.cell (i := 1) rfl
  have hk3l := hk3.lt
  go_wp2_with fail
  clear hk3c0 hk3c1 hk3l
  refine (fewT s0 A0 c0 n0 true _ hn0).mono ?_
  rintro e w3 ⟨rfl, hup⟩
  replace hk4 := hk4.up hup
  replace hupw := hupw.trans hup
  clear hup
  have hk4c0 := hk4.cell (i := 0) rfl
  have hk4c1 := hk4.cell (i := 1) rfl
  have hk4l := hk4.lt
  go_wp2_with fail
  clear hk4c0 hk4c1 hk4l
  refine (fewT s1 A1 c1 n1 false _ hn1).mono ?_
  rintro e w4 ⟨rfl, hup⟩
  replace hupw := hupw.trans hup
  clear hup
  go_wp2_with fail
  refine (awakeQ (hp.up hupw)).mono ?_
  rintro e w5 ⟨rfl, hup⟩
  replace hupw := hupw.trans hup
  clear hup
  go_wp2_with fail
  go_ret
  exact ⟨rfl, hupw⟩
set_option maxRecDepth 100000 in
set_option maxHeartbeats 4000000 in
theorem makeW_b (s0 s1 : Bool) (A0 A1 : Option Addr) (n0 c0 n1 c1 : Nat) (a b : Int) (w : World)  (hp : Pow w) (hn0 : decide ((n0 : Int) ≤ 36) = true) (hn1 : decide ((n1 : Int) ≤ 36) = true) (ha1 : -9223372036854775808 ≤ a) (ha2 : a ≤ 9223372036854775807) (hb1 : -9223372036854775808 ≤ b) (hb2 : b ≤ 9223372036854775807) (hB : Bo w (.agg #[.bool s0, .slice A0 n0 c0]) (.agg #[.bool s1, .slice A1 n1 c1])) :
    Calls Tryz.prog 3 #[.agg #[.bool s0, .slice A0 n0 c0], .agg #[.bool s1, .slice A1 n1 c1], .agg #[.int .i64 a, .int .i64 b]] w (PB w true) := by
  have hupw : Up w w := Up.refl w
  go_enter Tryz.func3, Tryz.ntmps3
  go_wp2_with fail
  obtain ⟨wa1, hwa1⟩ : ∃ x, x = (((w.alloc (.cells #[.bool s0, .slice A0 n0 c0] 24)).alloc (.cells #[.bool s1, .slice A1 n1 c1] 24)).alloc (.cells #[.int .i64 a, .int .i64 b] 25)) := ⟨_, rfl⟩
  have hup : Up w wa1 := by rw [hwa1]; exact ((((Up.refl w).alloc _).alloc _).alloc _)
  have hzwa1 : w.heap.size ≤ w.heap.size := hupw.size
  replace hB := hB.up hup
  replace hupw := hupw.trans hup
  clear hup
  have hk3 : Bk wa1 (w.heap.size) 24 #[.bool s0, .slice A0 n0 c0] := by
    have := (((Bk.new w 24 #[.bool s0, .slice A0 n0 c0]).alloc (.cells #[.bool s1, .slice A1 n1 c1] 24)).alloc (.cells #[.int .i64 a, .int .i64 b] 25))
    rw [hwa1]; simpa using this
  have hk4 : Bk wa1 (w.heap.size + 1) 24 #[.bool s1, .slice A1 n1 c1] := by
    have := ((Bk.new (w.alloc (.cells #[.bool s0, .slice A0 n0 c0] 24)) 24 #[.bool s1, .slice A1 n1 c1]).alloc (.cells #[.int .i64 a, .int .i64 b] 25))
    rw [hwa1]; simpa using this
  have hk5 : Bk wa1 (w.heap.size + 1 + 1) 25 #[.int .i64 a, .int .i64 b] := by
    have := (Bk.new ((w.alloc (.cells #[.bool s0, .slice A0 n0 c0] 24)).alloc (.cells #[.bool s1, .slice A1 n1 c1] 24)) 25 #[.int .i64 a, .int .i64 b])
    rw [hwa1]; simpa using this
  rw [← hwa1]
  clear hwa1
  refine (awakeQ (hp.up hupw)).mono ?_
  rintro e w2 ⟨rfl, hup⟩
  replace hk3 := hk3.up hup
  replace hk4 := hk4.up hup
  replace hk5 := hk5.up hup
  replace hB := hB.up hup
  replace hupw := hupw.trans hup
  clear hup
  have hk3c0 := hk3.cell (i := 0) rfl
  have hk3c1 := hk3.cell (i := 1) rfl
  have hk3l := hk3.lt
  go_wp2_with fail
  clear hk3c0 hk3c1 hk3l
  refine (fewT s0 A0 c0 n0 true _ hn0).mono ?_
  rintro e w3 ⟨rfl, hup⟩
  replace hk3 := hk3.up hup
  replace hk4 := hk4.up hup
  replace hk5 := hk5.up hup
  replace hB := hB.up hup
  replace hupw := hupw.trans hup
  clear hup
  have hk4c0 := hk4.cell (i := 0) rfl
  have hk4c1 := hk4.cell (i := 1) rfl
  have hk4l := hk4.lt
  go_wp2_with fail
  clear hk4c0 hk4c1 hk4l
  refine (fewT s1 A1 c1 n1 true _ hn1).mono ?_
  rintro e w4 ⟨rfl, hup⟩
  replace hk3 := hk3.up hup
  replace hk4 := hk4.up hup
  replace hk5 := hk5.up hup
  replace hB := hB.up hup
  replace hupw := hupw.trans hup
  clear hup
  have hk3c0 := hk3.cell (i := 0) rfl
  have hk3c1 := hk3.cell (i := 1) rfl
  have hk3l := hk3.lt
  have hk4c0 := hk4.cell (i := 0) rfl
  have hk4c1 := hk4.cell (i := 1) rfl
  have hk4l := hk4.lt
  go_wp2_with fail
  clear hk3c0 hk3c1 hk3l hk4c0 hk4c1 hk4l
  refine (makeB2 hB).mono ?_
  rintro e w5 ⟨vf, rfl, hf, hup⟩
  replace hk3 := hk3.up hup
  replace hk4 := hk4.up hup
  replace hk5 := hk5.up hup
  replace hB := hB.up hup
  replace hupw := hupw.trans hup
  clear hup
  obtain ⟨s_6, A_6, n_6, c_6, s_7, A_7, n_7, c_7, rfl, h_6, h_7⟩ := hf
  have hk3c0 := hk3.cell (i := 0) rfl
  have hk3c1 := hk3.cell (i := 1) rfl
  have hk3l := hk3.lt
  have hk4c0 := hk4.cell (i := 0) rfl
  have hk4c1 := hk4.cell (i := 1) rfl
  have hk4l := hk4.lt
  go_wp2_with fail
  clear hk3c0 hk3c1 hk3l hk4c0 hk4c1 hk4l
  obtain ⟨wa8, hwa8⟩ : ∃ x, x = (w5.alloc (.cells #[.bool s_6, .slice A_6 n_6 c_6, .bool s_7, .slice A_7 n_7 c_7] 29)) := ⟨_, rfl⟩
  have hup : Up w5 wa8 := by rw [hwa8]; exact ((Up.refl w5).alloc _)
  have howa8 : (w.heap.size + 1 + 1) < w5.heap.size := hk5.lt
  have hzwa8 : w.heap.size ≤ w5.heap.size := hupw.size
  replace hk5 := hk5.up hup
  replace hB := hB.up hup
  replace h_6 := h_6.up hup
  replace h_7 := h_7.up hup
  replace hupw := hupw.trans hup
  clear hup
  have hk7 : Bk wa8 (w5.heap.size) 29 #[.bool s_6, .slice A_6 n_6 c_6, .bool s_7, .slice A_7 n_7 c_7] := by
    have := (Bk.new w5 29 #[.bool s_6, .slice A_6 n_6 c_6, .bool s_7, .slice A_7 n_7 c_7])
    rw [hwa8]; simpa using this
  rw [← hwa8]
  clear hwa8
  refine (rmakeB2 hB).mono ?_
  rintro e w9 ⟨vf, rfl, hf, hup⟩
  replace hk5 := hk5.up hup
  replace hk7 := hk7.up hup
  replace h_6 := h_6.up hup
  replace h_7 := h_7.up hup
  replace hupw := hupw.trans hup
  clear hup
  obtain ⟨s_10, A_10, n_10, c_10, s_11, A_11, n_11, c_11, rfl, h_10, h_11⟩ := hf
  have hk5c0 := hk5.cell (i := 0) rfl
  have hk5c1 := hk5.cell (i := 1) rfl
  have hk5l := hk5.lt
  go_wp2_with fail
  clear hk5c0 hk5c1 hk5l
  obtain ⟨wa12, hwa12⟩ : ∃ x, x = (w9.alloc (.cells #[.bool s_10, .slice A_10 n_10 c_10, .bool s_11, .slice A_11 n_11 c_11] 29)) := ⟨_, rfl⟩
  have hup : Up w9 wa12 := by rw [hwa12]; exact ((Up.refl w9).alloc _)
  have howa12 : w5.heap.size < w9.heap.size := hk7.lt
  have hzwa12 : w.heap.size ≤ w9.heap.size := hupw.size
  replace hk5 := hk5.up hup
  replace hk7 := hk7.up hup
  replace h_6 := h_6.up hup
  replace h_7 := h_7.up hup
  replace h_10 := h_10.up hup
  replace h_11 := h_11.up hup
  replace hupw := hupw.trans hup
  clear hup
  have hk9 : Bk wa12 (w9.heap.size) 29 #[.bool s_10, .slice A_10 n_10 c_10, .bool s_11, .slice A_11 n_11 c_11] := by
    have := (Bk.new w9 29 #[.bool s_10, .slice A_10 n_10 c_10, .bool s_11, .slice A_11 n_11 c_11])
    rw [hwa12]; simpa using this
  rw [← hwa12]
  clear hwa12
  refine (ofRQ a b _ ha1 ha2 hb1 hb2).mono ?_
  rintro e w13 ⟨vf, rfl, hf, hup⟩
  replace hk5 := hk5.up hup
  replace hk7 := hk7.up hup
  replace hk9 := hk9.up hup
  replace h_6 := h_6.up hup
  replace h_7 := h_7.up hup
  replace h_10 := h_10.up hup
  replace h_11 := h_11.up hup
  replace hupw := hupw.trans hup
  clear hup
  obtain ⟨s_14, A_14, n_14, c_14, s_15, A_15, n_15, c_15, rfl, h_14, h_15⟩ := hf
  have hk5c0 := hk5.cell (i := 0) rfl
  have hk5c1 := hk5.cell (i := 1) rfl
  have hk5l := hk5.lt
  go_wp2_with fail
  clear hk5c0 hk5c1 hk5l
  obtain ⟨wa16, hwa16⟩ : ∃ x, x = (w13.alloc (.cells #[.bool s_14, .slice A_14 n_14 c_14, .bool s_15, .slice A_15 n_15 c_15] 29)) := ⟨_, rfl⟩
  have hup : Up w13 wa16 := by rw [hwa16]; exact ((Up.refl w13).alloc _)
  have howa16 : w9.heap.size < w13.heap.size := hk9.lt
  have hzwa16 : w.heap.size ≤ w13.heap.size := hupw.size
  replace hk7 := hk7.up hup
  replace hk9 := hk9.up hup
  replace h_6 := h_6.up hup
  replace h_7 := h_7.up hup
  replace h_10 := h_10.up hup
  replace h_11 := h_11.up hup
  replace h_14 := h_14.up hup
  replace h_15 := h_15.up hup
  replace hupw := hupw.trans hup
  clear hup
  have hk11 : Bk wa16 (w13.heap.size) 29 #[.bool s_14, .slice A_14 n_14 c_14, .bool s_15, .slice A_15 n_15 c_15] := by
    have := (Bk.new w13 29 #[.bool s_14, .slice A_14 n_14 c_14, .bool s_15, .slice A_15 n_15 c_15])
    rw [hwa16]; simpa using this
  rw [← hwa16]
  clear hwa16
  refine (rofRQ a b _ ha1 ha2 hb1 hb2).mono ?_
  rintro e w17 ⟨vf, rfl, hf, hup⟩
  replace hk7 := hk7.up hup
  replace hk9 := hk9.up hup
  replace hk11 := hk11.up hup
  replace h_6 := h_6.up hup
  replace h_7 := h_7.up hup
  replace h_10 := h_10.up hup
  replace h_11 := h_11.up hup
  replace h_14 := h_14.up hup
  replace h_15 := h_15.up hup
  replace hupw := hupw.trans hup
  clear hup
  obtain ⟨s_18, A_18, n_18, c_18, s_19, A_19, n_19, c_19, rfl, h_18, h_19⟩ := hf
  have hk7c0 := hk7.cell (i := 0) rfl
  have hk7c1 := hk7.cell (i := 1) rfl
  have hk7c2 := hk7.cell (i := 2) rfl
  have hk7c3 := hk7.cell (i := 3) rfl
  have hk7l := hk7.lt
  have hk9c0 := hk9.cell (i := 0) rfl
  have hk9c1 := hk9.cell (i := 1) rfl
  have hk9c2 := hk9.cell (i := 2) rfl
  have hk9c3 := hk9.cell (i := 3) rfl
  have hk9l := hk9.lt
  go_wp2_with fail
  clear hk7c0 hk7c1 hk7c2 hk7c3 hk7l hk9c0 hk9c1 hk9c2 hk9c3 hk9l
  obtain ⟨wa20, hwa20⟩ : ∃ x, x = (w17.alloc (.cells #[.bool s_18, .slice A_18 n_18 c_18, .bool s_19, .slice A_19 n_19 c_19] 29)) := ⟨_, rfl⟩
  have hup : Up w17 wa20 := by rw [hwa20]; exact ((Up.refl w17).alloc _)
  have howa20 : w13.heap.size < w17.heap.size := hk11.lt
  have hzwa20 : w.heap.size ≤ w17.heap.size := hupw.size
  replace hk11 := hk11.up hup
  replace h_6 := h_6.up hup
  replace h_7 := h_7.up hup
  replace h_10 := h_10.up hup
  replace h_11 := h_11.up hup
  replace h_14 := h_14.up hup
  replace h_15 := h_15.up hup
  replace h_18 := h_18.up hup
  replace h_19 := h_19.up hup
  replace hupw := hupw.trans hup
  clear hup
  have hk13 : Bk wa20 (w17.heap.size) 29 #[.bool s_18, .slice A_18 n_18 c_18, .bool s_19, .slice A_19 n_19 c_19] := by
    have := (Bk.new w17 29 #[.bool s_18, .slice A_18 n_18 c_18, .bool s_19, .slice A_19 n_19 c_19])
    rw [hwa20]; simpa using this
  rw [← hwa20]
  clear hwa20
  refine (requalF _ _ _ (Fz.mk h_6 h_7) (Fz.mk h_10 h_11)).mono ?_
  rintro e w21 ⟨rfl, hup⟩
  replace hk11 := hk11.up hup
  replace hk13 := hk13.up hup
  replace h_14 := h_14.up hup
  replace h_15 := h_15.up hup
  replace h_18 := h_18.up hup
  replace h_19 := h_19.up hup
  replace hupw := hupw.trans hup
  clear hup
  have hk11c0 := hk11.cell (i := 0) rfl
  have hk11c1 := hk11.cell (i := 1) rfl
  have hk11c2 := hk11.cell (i := 2) rfl
  have hk11c3 := hk11.cell (i := 3) rfl
  have hk11l := hk11.lt
  have hk13c0 := hk13.cell (i := 0) rfl
  have hk13c1 := hk13.cell (i := 1) rfl
  have hk13c2 := hk13.cell (i := 2) rfl
  have hk13c3 := hk13.cell (i := 3) rfl
  have hk13l := hk13.lt
  go_wp2_with fail
  clear hk11c0 hk11c1 hk11c2 hk11c3 hk11l hk13c0 hk13c1 hk13c2 hk13c3 hk13l
  refine (requalF _ _ _ (Fz.mk h_14 h_15) (Fz.mk h_18 h_19)).mono ?_
  rintro e w22 ⟨rfl, hup⟩
  replace hupw := hupw.trans hup
  clear hup
  go_wp2_with fail
  go_ret
  exact ⟨rfl, hupw⟩
set_option maxRecDepth 100000 in
set_option maxHeartbeats 4000000 in
theorem makeW_0 (s0 s1 : Bool) (A0 A1 : Option Addr) (n0 c0 n1 c1 : Nat) (a b : Int) {x y : Int} (w : World)  (hp : Pow w) (hn0 : decide ((n0 : Int) ≤ 36) = true) (hn1 : decide ((n1 : Int) ≤ 36) = true) (ha1 : -9223372036854775808 ≤ a) (ha2 : a ≤ 9223372036854775807) (hb1 : -9223372036854775808 ≤ b) (hb2 : b ≤ 9223372036854775807) (h0 : Iz w (.agg #[.bool s0, .slice A0 n0 c0]) x) (h1 : Iz w (.agg #[.bool s1, .slice A1 n1 c1]) y) (he : Hid (makeR x y = noR 8)) :
    Calls Tryz.prog 3 #[.agg #[.bool s0, .slice A0 n0 c0], .agg #[.bool s1, .slice A1 n1 c1], .agg #[.int .i64 a, .int .i64 b]] w (PB w true) := by
  have hupw : Up w w := Up.refl w
  go_enter Tryz.func3, Tryz.ntmps3
  go_wp2_with fail
  obtain ⟨wa1, hwa1⟩ : ∃ x, x = (((w.alloc (.cells #[.bool s0, .slice A0 n0 c0] 24)).alloc (.cells #[.bool s1, .slice A1 n1 c1] 24)).alloc (.cells #[.int .i64 a, .int .i64 b] 25)) := ⟨_, rfl⟩
  have hup : Up w wa1 := by rw [hwa1]; exact ((((Up.refl w).alloc _).alloc _).alloc _)
  have hzwa1 : w.heap.size ≤ w.heap.size := hupw.size
  replace h0 := h0.up hup
  replace h1 := h1.up hup
  replace hupw := hupw.trans hup
  clear hup
  have hk3 : Bk wa1 (w.heap.size) 24 #[.bool s0, .slice A0 n0 c0] := by
    have := (((Bk.new w 24 #[.bool s0, .slice A0 n0 c0]).alloc (.cells #[.bool s1, .slice A1 n1 c1] 24)).alloc (.cells #[.int .i64 a, .int .i64 b] 25))
    rw [hwa1]; simpa using this
  have hk4 : Bk wa1 (w.heap.size + 1) 24 #[.bool s1, .slice A1 n1 c1] := by
    have := ((Bk.new (w.alloc (.cells #[.bool s0, .slice A0 n0 c0] 24)) 24 #[.bool s1, .slice A1 n1 c1]).alloc (.cells #[.int .i64 a, .int .i64 b] 25))
    rw [hwa1]; simpa using this
  have hk5 : Bk wa1 (w.heap.size + 1 + 1) 25 #[.int .i64 a, .int .i64 b] := by
    have := (Bk.new ((w.alloc (.cells #[.bool s0, .slice A0 n0 c0] 24)).alloc (.cells #[.bool s1, .slice A1 n1 c1] 24)) 25 #[.int .i64 a, .int .i64 b])
    rw [hwa1]; simpa using this
  rw [← hwa1]
  clear hwa1
  refine (awakeQ (hp.up hupw)).mono ?_
  rintro e w2 ⟨rfl, hup⟩
  replace hk3 := hk3.up hup
  replace hk4 := hk4.up hup
  replace hk5 := hk5.up hup
  replace h0 := h0.up hup
  replace h1 := h1.up hup
  replace hupw := hupw.trans hup
  clear hup
  have hk3c0 := hk3.cell (i := 0) rfl
  have hk3c1 := hk3.cell (i := 1) rfl
  have hk3l := hk3.lt
  go_wp2_with fail
  clear hk3c0 hk3c1 hk3l
  refine (fewT s0 A0 c0 n0 true _ hn0).mono ?_
  rintro e w3 ⟨rfl, hup⟩
  replace hk3 := hk3.up hup
  replace hk4 := hk4.up hup
  replace hk5 := hk5.up hup
  replace h0 := h0.up hup
  replace h1 := h1.up hup
  replace hupw := hupw.trans hup
  clear hup
  have hk4c0 := hk4.cell (i := 0) rfl
  have hk4c1 := hk4.cell (i := 1) rfl
  have hk4l := hk4.lt
  go_wp2_with fail
  clear hk4c0 hk4c1 hk4l
  refine (fewT s1 A1 c1 n1 true _ hn1).mono ?_
  rintro e w4 ⟨rfl, hup⟩
  replace hk3 := hk3.up hup
  replace hk4 := hk4.up hup
  replace hk5 := hk5.up hup
  replace h0 := h0.up hup
  replace h1 := h1.up hup
  replace hupw := hupw.trans hup
  clear hup
  have hk3c0 := hk3.cell (i := 0) rfl
  have hk3c1 := hk3.cell (i := 1) rfl
  have hk3l := hk3.lt
  have hk4c0 := hk4.cell (i := 0) rfl
  have hk4c1 := hk4.cell (i := 1) rfl
  have hk4l := hk4.lt
  go_wp2_with fail
  clear hk3c0 hk3c1 hk3l hk4c0 hk4c1 hk4l
  refine (makeR0 h0 h1 he.out).mono ?_
  rintro e w5 ⟨vf, rfl, hf, hup⟩
  replace hk3 := hk3.up hup
  replace hk4 := hk4.up hup
  replace hk5 := hk5.up hup
  replace h0 := h0.up hup
  replace h1 := h1.up hup
  replace hupw := hupw.trans hup
  clear hup
  obtain ⟨s_6, A_6, n_6, c_6, s_7, A_7, n_7, c_7, rfl, h_6, h_7⟩ := hf
  have hk3c0 := hk3.cell (i := 0) rfl
  have hk3c1 := hk3.cell (i := 1) rfl
  have hk3l := hk3.lt
  have hk4c0 := hk4.cell (i := 0) rfl
  have hk4c1 := hk4.cell (i := 1) rfl
  have hk4l := hk4.lt
  go_wp2_with fail
  clear hk3c0 hk3c1 hk3l hk4c0 hk4c1 hk4l
  obtain ⟨wa8, hwa8⟩ : ∃ x, x = (w5.alloc (.cells #[.bool s_6, .slice A_6 n_6 c_6, .bool s_7, .slice A_7 n_7 c_7] 29)) := ⟨_, rfl⟩
  have hup : Up w5 wa8 := by rw [hwa8]; exact ((Up.refl w5).alloc _)
  have howa8 : (w.heap.size + 1 + 1) < w5.heap.size := hk5.lt
  have hzwa8 : w.heap.size ≤ w5.heap.size := hupw.size
  replace hk5 := hk5.up hup
  replace h0 := h0.up hup
  replace h1 := h1.up hup
  replace h_6 := h_6.up hup
  replace h_7 := h_7.up hup
  replace hupw := hupw.trans hup
  clear hup
  have hk7 : Bk wa8 (w5.heap.size) 29 #[.bool s_6, .slice A_6 n_6 c_6, .bool s_7, .slice A_7 n_7 c_7] := by
    have := (Bk.new w5 29 #[.bool s_6, .slice A_6 n_6 c_6, .bool s_7, .slice A_7 n_7 c_7])
    rw [hwa8]; simpa using this
  rw [← hwa8]
  clear hwa8
  refine (rmakeR0 h0 h1 he.out).mono ?_
  rintro e w9 ⟨vf, rfl, hf, hup⟩
  replace hk5 := hk5.up hup
  replace hk7 := hk7.up hup
  replace h_6 := h_6.up hup
  replace h_7 := h_7.up hup
  replace hupw := hupw.trans hup
  clear hup
  obtain ⟨s_10, A_10, n_10, c_10, s_11, A_11, n_11, c_11, rfl, h_10, h_11⟩ := hf
  have hk5c0 := hk5.cell (i := 0) rfl
  have hk5c1 := hk5.cell (i := 1) rfl
  have hk5l := hk5.lt
  go_wp2_with fail
  clear hk5c0 hk5c1 hk5l
  obtain ⟨wa12, hwa12⟩ : ∃ x, x = (w9.alloc (.cells #[.bool s_10, .slice A_10 n_10 c_10, .bool s_11, .slice A_11 n_11 c_11] 29)) := ⟨_, rfl⟩
  have hup : Up w9 wa12 := by rw [hwa12]; exact ((Up.refl w9).alloc _)
  have howa12 : w5.heap.size < w9.heap.size := hk7.lt
  have hzwa12 : w.heap.size ≤ w9.heap.size := hupw.size
  replace hk5 := hk5.up hup
  replace hk7 := hk7.up hup
  replace h_6 := h_6.up hup
  replace h_7 := h_7.up hup
  replace h_10 := h_10.up hup
  replace h_11 := h_11.up hup
  replace hupw := hupw.trans hup
  clear hup
  have hk9 : Bk wa12 (w9.heap.size) 29 #[.bool s_10, .slice A_10 n_10 c_10, .bool s_11, .slice A_11 n_11 c_11] := by
    have := (Bk.new w9 29 #[.bool s_10, .slice A_10 n_10 c_10, .bool s_11, .slice A_11 n_11 c_11])
    rw [hwa12]; simpa using this
  rw [← hwa12]
  clear hwa12
  refine (ofRQ a b _ ha1 ha2 hb1 hb2).mono ?_
  rintro e w13 ⟨vf, rfl, hf, hup⟩
  replace hk5 := hk5.up hup
  replace hk7 := hk7.up hup
  replace hk9 := hk9.up hup
  replace h_6 := h_6.up hup
  replace h_7 := h_7.up hup
  replace h_10 := h_10.up hup
  replace h_11 := h_11.up hup
  replace hupw := hupw.trans hup
  clear hup
  obtain ⟨s_14, A_14, n_14, c_14, s_15, A_15, n_15, c_15, rfl, h_14, h_15⟩ := hf
  have hk5c0 := hk5.cell (i := 0) rfl
  have hk5c1 := hk5.cell (i := 1) rfl
  have hk5l := hk5.lt
  go_wp2_with fail
  clear hk5c0 hk5c1 hk5l
  obtain ⟨wa16, hwa16⟩ : ∃ x, x = (w13.alloc (.cells #[.bool s_14, .slice A_14 n_14 c_14, .bool s_15, .slice A_15 n_15 c_15] 29)) := ⟨_, rfl⟩
  have hup : Up w13 wa16 := by rw [hwa16]; exact ((Up.refl w13).alloc _)
  have howa16 : w9.heap.size < w13.heap.size := hk9.lt
  have hzwa16 : w.heap.size ≤ w13.heap.size := hupw.size
  replace hk7 := hk7.up hup
  replace hk9 := hk9.up hup
  replace h_6 := h_6.up hup
  replace h_7 := h_7.up hup
  replace h_10 := h_10.up hup
  replace h_11 := h_11.up hup
  replace h_14 := h_14.up hup
  replace h_15 := h_15.up hup
  replace hupw := hupw.trans hup
  clear hup
  have hk11 : Bk wa16 (w13.heap.size) 29 #[.bool s_14, .slice A_14 n_14 c_14, .bool s_15, .slice A_15 n_15 c_15] := by
    have := (Bk.new w13 29 #[.bool s_14, .slice A_14 n_14 c_14, .bool s_15, .slice A_15 n_15 c_15])
    rw [hwa16]; simpa using this
  rw [← hwa16]
  clear hwa16
  refine (rofRQ a b _ ha1 ha2 hb1 hb2).mono ?_
  rintro e w17 ⟨vf, rfl, hf, hup⟩
  replace hk7 := hk7.up hup
  replace hk9 := hk9.up hup
  replace hk11 := hk11.up hup
  replace h_6 := h_6.up hup
  replace h_7 := h_7.up hup
  replace h_10 := h_10.up hup
  replace h_11 := h_11.up hup
  replace h_14 := h_14.up hup
  replace h_15 := h_15.up hup
  replace hupw := hupw.trans hup
  clear hup
  obtain ⟨s_18, A_18, n_18, c_18, s_19, A_19, n_19, c_19, rfl, h_18, h_19⟩ := hf
  have hk7c0 := hk7.cell (i := 0) rfl
  have hk7c1 := hk7.cell (i := 1) rfl
  have hk7c2 := hk7.cell (i := 2) rfl
  have hk7c3 := hk7.cell (i := 3) rfl
  have hk7l := hk7.lt
  have hk9c0 := hk9.cell (i := 0) rfl
  have hk9c1 := hk9.cell (i := 1) rfl
  have hk9c2 := hk9.cell (i := 2) rfl
  have hk9c3 := hk9.cell (i := 3) rfl
  have hk9l := hk9.lt
  go_wp2_with fail
  clear hk7c0 hk7c1 hk7c2 hk7c3 hk7l hk9c0 hk9c1 hk9c2 hk9c3 hk9l
  obtain ⟨wa20, hwa20⟩ : ∃ x, x = (w17.alloc (.cells #[.bool s_18, .slice A_18 n_18 c_18, .bool s_19, .slice A_19 n_19 c_19] 29)) := ⟨_, rfl⟩
  have hup : Up w17 wa20 := by rw [hwa20]; exact ((Up.refl w17).alloc _)
  have howa20 : w13.heap.size < w17.heap.size := hk11.lt
  have hzwa20 : w.heap.size ≤ w17.heap.size := hupw.size
  replace hk11 := hk11.up hup
  replace h_6 := h_6.up hup
  replace h_7 := h_7.up hup
  replace h_10 := h_10.up hup
  replace h_11 := h_11.up hup
  replace h_14 := h_14.up hup
  replace h_15 := h_15.up hup
  replace h_18 := h_18.up hup
  replace h_19 := h_19.up hup
  replace hupw := hupw.trans hup
  clear hup
  have hk13 : Bk wa20 (w17.heap.size) 29 #[.bool s_18, .slice A_18 n_18 c_18, .bool s_19, .slice A_19 n_19 c_19] := by
    have := (Bk.new w17 29 #[.bool s_18, .slice A_18 n_18 c_18, .bool s_19, .slice A_19 n_19 c_19])
    rw [hwa20]; simpa using this
  rw [← hwa20]
  clear hwa20
  refine (requalF _ _ _ (Fz.mk h_6 h_7) (Fz.mk h_10 h_11)).mono ?_
  rintro e w21 ⟨rfl, hup⟩
  replace hk11 := hk11.up hup
  replace hk13 := hk13.up hup
  replace h_14 := h_14.up hup
  replace h_15 := h_15.up hup
  replace h_18 := h_18.up hup
  replace h_19 := h_19.up hup
  replace hupw := hupw.trans hup
  clear hup
  have hk11c0 := hk11.cell (i := 0) rfl
  have hk11c1 := hk11.cell (i := 1) rfl
  have hk11c2 := hk11.cell (i := 2) rfl
  have hk11c3 := hk11.cell (i := 3) rfl
  have hk11l := hk11.lt
  have hk13c0 := hk13.cell (i := 0) rfl
  have hk13c1 := hk13.cell (i := 1) rfl
  have hk13c2 := hk13.cell (i := 2) rfl
  have hk13c3 := hk13.cell (i := 3) rfl
  have hk13l := hk13.lt
  go_wp2_with fail
  clear hk11c0 hk11c1 hk11c2 hk11c3 hk11l hk13c0 hk13c1 hk13c2 hk13c3 hk13l
  refine (requalF _ _ _ (Fz.mk h_14 h_15) (Fz.mk h_18 h_19)).mono ?_
  rintro e w22 ⟨rfl, hup⟩
  replace hupw := hupw.trans hup
  clear hup
  go_wp2_with fail
  go_ret
  exact ⟨rfl, hupw⟩
set_option maxRecDepth 100000 in
set_option maxHeartbeats 4000000 in
theorem makeW_1 (s0 s1 : Bool) (A0 A1 : Option Addr) (n0 c0 n1 c1 : Nat) (a b : Int) {x y : Int} {r : Rat} (w : World)  (hp : Pow w) (hn0 : decide ((n0 : Int) ≤ 36) = true) (hn1 : decide ((n1 : Int) ≤ 36) = true) (ha1 : -9223372036854775808 ≤ a) (ha2 : a ≤ 9223372036854775807) (hb1 : -9223372036854775808 ≤ b) (hb2 : b ≤ 9223372036854775807) (h0 : Iz w (.agg #[.bool s0, .slice A0 n0 c0]) x) (h1 : Iz w (.agg #[.bool s1, .slice A1 n1 c1]) y) (he : Hid (makeR x y = okR r)) :
    Calls Tryz.prog 3 #[.agg #[.bool s0, .slice A0 n0 c0], .agg #[.bool s1, .slice A1 n1 c1], .agg #[.int .i64 a, .int .i64 b]] w (PB w true) := by
  have hupw : Up w w := Up.refl w
  go_enter Tryz.func3, Tryz.ntmps3
  go_wp2_with fail
  obtain ⟨wa1, hwa1⟩ : ∃ x, x = (((w.alloc (.cells #[.bool s0, .slice A0 n0 c0] 24)).alloc (.cells #[.bool s1, .slice A1 n1 c1] 24)).alloc (.cells #[.int .i64 a, .int .i64 b] 25)) := ⟨_, rfl⟩
  have hup : Up w wa1 := by rw [hwa1]; exact ((((Up.refl w).alloc _).alloc _).alloc _)
  have hzwa1 : w.heap.size ≤ w.heap.size := hupw.size
  replace h0 := h0.up hup
  replace h1 := h1.up hup
  replace hupw := hupw.trans hup
  clear hup
  have hk3 : Bk wa1 (w.heap.size) 24 #[.bool s0, .slice A0 n0 c0] := by
    have := (((Bk.new w 24 #[.bool s0, .slice A0 n0 c0]).alloc (.cells #[.bool s1, .slice A1 n1 c1] 24)).alloc (.cells #[.int .i64 a, .int .i64 b] 25))
    rw [hwa1]; simpa using this
  have hk4 : Bk wa1 (w.heap.size + 1) 24 #[.bool s1, .slice A1 n1 c1] := by
    have := ((Bk.new (w.alloc (.cells #[.bool s0, .slice A0 n0 c0] 24)) 24 #[.bool s1, .slice A1 n1 c1]).alloc (.cells #[.int .i64 a, .int .i64 b] 25))
    rw [hwa1]; simpa using this
  have hk5 : Bk wa1 (w.heap.size + 1 + 1) 25 #[.int .i64 a, .int .i64 b] := by
    have := (Bk.new ((w.alloc (.cells #[.bool s0, .slice A0 n0 c0] 24)).alloc (.cells #[.bool s1, .slice A1 n1 c1] 24)) 25 #[.int .i64 a, .int .i64 b])
    rw [hwa1]; simpa using this
  rw [← hwa1]
  clear hwa1
  refine (awakeQ (hp.up hupw)).mono ?_
  rintro e w2 ⟨rfl, hup⟩
  replace hk3 := hk3.up hup
  replace hk4 := hk4.up hup
  replace hk5 := hk5.up hup
  replace h0 := h0.up hup
  replace h1 := h1.up hup
  replace hupw := hupw.trans hup
  clear hup
  have hk3c0 := hk3.cell (i := 0) rfl
  have hk3c1 := hk3.cell (i := 1) rfl
  have hk3l := hk3.lt
  go_wp2_with fail
  clear hk3c0 hk3c1 hk3l
  refine (fewT s0 A0 c0 n0 true _ hn0).mono ?_
  rintro e w3 ⟨rfl, hup⟩
  replace hk3 := hk3.up hup
  replace hk4 := hk4.up hup
  replace hk5 := hk5.up hup
  replace h0 := h0.up hup
  replace h1 := h1.up hup
  replace hupw := hupw.trans hup
  clear hup
  have hk4c0 := hk4.cell (i := 0) rfl
  have hk4c1 := hk4.cell (i := 1) rfl
  have hk4l := hk4.lt
  go_wp2_with fail
  clear hk4c0 hk4c1 hk4l
  refine (fewT s1 A1 c1 n1 true _ hn1).mono ?_
  rintro e w4 ⟨rfl, hup⟩
  replace hk3 := hk3.up hup
  replace hk4 := hk4.up hup
  replace hk5 := hk5.up hup
  replace h0 := h0.up hup
  replace h1 := h1.up hup
  replace hupw := hupw.trans hup
  clear hup
  have hk3c0 := hk3.cell (i := 0) rfl
  have hk3c1 := hk3.cell (i := 1) rfl
  have hk3l := hk3.lt
  have hk4c0 := hk4.cell (i := 0) rfl
  have hk4c1 := hk4.cell (i := 1) rfl
  have hk4l := hk4.lt
  go_wp2_with fail
  clear hk3c0 hk3c1 hk3l hk4c0 hk4c1 hk4l
  refine (makeR1 h0 h1 he.out).mono ?_
  rintro e w5 ⟨vf, rfl, hf, hup⟩
  replace hk3 := hk3.up hup
  replace hk4 := hk4.up hup
  replace hk5 := hk5.up hup
  replace h0 := h0.up hup
  replace h1 := h1.up hup
  replace hupw := hupw.trans hup
  clear hup
  obtain ⟨s_6, A_6, n_6, c_6, s_7, A_7, n_7, c_7, rfl, h_6, h_7⟩ := hf
  have hk3c0 := hk3.cell (i := 0) rfl
  have hk3c1 := hk3.cell (i := 1) rfl
  have hk3l := hk3.lt
  have hk4c0 := hk4.cell (i := 0) rfl
  have hk4c1 := hk4.cell (i := 1) rfl
  have hk4l := hk4.lt
  go_wp2_with fail
  clear hk3c0 hk3c1 hk3l hk4c0 hk4c1 hk4l
  obtain ⟨wa8, hwa8⟩ : ∃ x, x = (w5.alloc (.cells #[.bool s_6, .slice A_6 n_6 c_6, .bool s_7, .slice A_7 n_7 c_7] 29)) := ⟨_, rfl⟩
  have hup : Up w5 wa8 := by rw [hwa8]; exact ((Up.refl w5).alloc _)
  have howa8 : (w.heap.size + 1 + 1) < w5.heap.size := hk5.lt
  have hzwa8 : w.heap.size ≤ w5.heap.size := hupw.size
  replace hk5 := hk5.up hup
  replace h0 := h0.up hup
  replace h1 := h1.up hup
  replace h_6 := h_6.up hup
  replace h_7 := h_7.up hup
  replace hupw := hupw.trans hup
  clear hup
  have hk7 : Bk wa8 (w5.heap.size) 29 #[.bool s_6, .slice A_6 n_6 c_6, .bool s_7, .slice A_7 n_7 c_7] := by
    have := (Bk.new w5 29 #[.bool s_6, .slice A_6 n_6 c_6, .bool s_7, .slice A_7 n_7 c_7])
    rw [hwa8]; simpa using this
  rw [← hwa8]
  clear hwa8
  refine (rmakeR1 h0 h1 he.out).mono ?_
  rintro e w9 ⟨vf, rfl, hf, hup⟩
  replace hk5 := hk5.up hup
  replace hk7 := hk7.up hup
  replace h_6 := h_6.up hup
  replace h_7 := h_7.up hup
  replace hupw := hupw.trans hup
  clear hup
  obtain ⟨s_10, A_10, n_10, c_10, s_11, A_11, n_11, c_11, rfl, h_10, h_11⟩ := hf
  have hk5c0 := hk5.cell (i := 0) rfl
  have hk5c1 := hk5.cell (i := 1) rfl
  have hk5l := hk5.lt
  go_wp2_with fail
  clear hk5c0 hk5c1 hk5l
  obtain ⟨wa12, hwa12⟩ : ∃ x, x = (w9.alloc (.cells #[.bool s_10, .slice A_10 n_10 c_10, .bool s_11, .slice A_11 n_11 c_11] 29)) := ⟨_, rfl⟩
  have hup : Up w9 wa12 := by rw [hwa12]; exact ((Up.refl w9).alloc _)
  have howa12 : w5.heap.size < w9.heap.size := hk7.lt
  have hzwa12 : w.heap.size ≤ w9.heap.size := hupw.size
  replace hk5 := hk5.up hup
  replace hk7 := hk7.up hup
  replace h_6 := h_6.up hup
  replace h_7 := h_7.up hup
  replace h_10 := h_10.up hup
  replace h_11 := h_11.up hup
  replace hupw := hupw.trans hup
  clear hup
  have hk9 : Bk wa12 (w9.heap.size) 29 #[.bool s_10, .slice A_10 n_10 c_10, .bool s_11, .slice A_11 n_11 c_11] := by
    have := (Bk.new w9 29 #[.bool s_10, .slice A_10 n_10 c_10, .bool s_11, .slice A_11 n_11 c_11])
    rw [hwa12]; simpa using this
  rw [← hwa12]
  clear hwa12
  refine (ofRQ a b _ ha1 ha2 hb1 hb2).mono ?_
  rintro e w13 ⟨vf, rfl, hf, hup⟩
  replace hk5 := hk5.up hup
  replace hk7 := hk7.up hup
  replace hk9 := hk9.up hup
  replace h_6 := h_6.up hup
  replace h_7 := h_7.up hup
  replace h_10 := h_10.up hup
  replace h_11 := h_11.up hup
  replace hupw := hupw.trans hup
  clear hup
  obtain ⟨s_14, A_14, n_14, c_14, s_15, A_15, n_15, c_15, rfl, h_14, h_15⟩ := hf
  have hk5c0 := hk5.cell (i := 0) rfl
  have hk5c1 := hk5.cell (i := 1) rfl
  have hk5l := hk5.lt
  go_wp2_with fail
  clear hk5c0 hk5c1 hk5l
  obtain ⟨wa16, hwa16⟩ : ∃ x, x = (w13.alloc (.cells #[.bool s_14, .slice A_14 n_14 c_14, .bool s_15, .slice A_15 n_15 c_15] 29)) := ⟨_, rfl⟩
  have hup : Up w13 wa16 := by rw [hwa16]; exact ((Up.refl w13).alloc _)
  have howa16 : w9.heap.size < w13.heap.size := hk9.lt
  have hzwa16 : w.heap.size ≤ w13.heap.size := hupw.size
  replace hk7 := hk7.up hup
  replace hk9 := hk9.up hup
  replace h_6 := h_6.up hup
  replace h_7 := h_7.up hup
  replace h_10 := h_10.up hup
  replace h_11 := h_11.up hup
  replace h_14 := h_14.up hup
  replace h_15 := h_15.up hup
  replace hupw := hupw.trans hup
  clear hup
  have hk11 : Bk wa16 (w13.heap.size) 29 #[.bool s_14, .slice A_14 n_14 c_14, .bool s_15, .slice A_15 n_15 c_15] := by
    have := (Bk.new w13 29 #[.bool s_14, .slice A_14 n_14 c_14, .bool s_15, .slice A_15 n_15 c_15])
    rw [hwa16]; simpa using this
  rw [← hwa16]
  clear hwa16
  refine (rofRQ a b _ ha1 ha2 hb1 hb2).mono ?_
  rintro e w17 ⟨vf, rfl, hf, hup⟩
  replace hk7 := hk7.up hup
  replace hk9 := hk9.up hup
  replace hk11 := hk11.up hup
  replace h_6 := h_6.up hup
  replace h_7 := h_7.up hup
  replace h_10 := h_10.up hup
  replace h_11 := h_11.up hup
  replace h_14 := h_14.up hup
  replace h_15 := h_15.up hup
  replace hupw := hupw.trans hup
  clear hup
  obtain ⟨s_18, A_18, n_18, c_18, s_19, A_19, n_19, c_19, rfl, h_18, h_19⟩ := hf
  have hk7c0 := hk7.cell (i := 0) rfl
  have hk7c1 := hk7.cell (i := 1) rfl
  have hk7c2 := hk7.cell (i := 2) rfl
  have hk7c3 := hk7.cell (i := 3) rfl
  have hk7l := hk7.lt
  have hk9c0 := hk9.cell (i := 0) rfl
  have hk9c1 := hk9.cell (i := 1) rfl
  have hk9c2 := hk9.cell (i := 2) rfl
  have hk9c3 := hk9.cell (i := 3) rfl
  have hk9l := hk9.lt
  go_wp2_with fail
  clear hk7c0 hk7c1 hk7c2 hk7c3 hk7l hk9c0 hk9c1 hk9c2 hk9c3 hk9l
  obtain ⟨wa20, hwa20⟩ : ∃ x, x = (w17.alloc (.cells #[.bool s_18, .slice A_18 n_18 c_18, .bool s_19, .slice A_19 n_19 c_19] 29)) := ⟨_, rfl⟩
  have hup : Up w17 wa20 := by rw [hwa20]; exact ((Up.refl w17).alloc _)
  have howa20 : w13.heap.size < w17.heap.size := hk11.lt
  have hzwa20 : w.heap.size ≤ w17.heap.size := hupw.size
  replace hk7 := hk7.up hup
  replace hk11 := hk11.up hup
  replace h_6 := h_6.up hup
  replace h_7 := h_7.up hup
  replace h_10 := h_10.up hup
  replace h_11 := h_11.up hup
  replace h_14 := h_14.up hup
  replace h_15 := h_15.up hup
  replace h_18 := h_18.up hup
  replace h_19 := h_19.up hup
  replace hupw := hupw.trans hup
  clear hup
  have hk13 : Bk wa20 (w17.heap.size) 29 #[.bool s_18, .slice A_18 n_18 c_18, .bool s_19, .slice A_19 n_19 c_19] := by
    have := (Bk.new w17 29 #[.bool s_18, .slice A_18 n_18 c_18, .bool s_19, .slice A_19 n_19 c_19])
    rw [hwa20]; simpa using this
  rw [← hwa20]
  clear hwa20
  refine (requalF _ _ _ (Fz.mk h_6 h_7) (Fz.mk h_10 h_11)).mono ?_
  rintro e w21 ⟨rfl, hup⟩
  replace hk7 := hk7.up hup
  replace hk11 := hk11.up hup
  replace hk13 := hk13.up hup
  replace h_6 := h_6.up hup
  replace h_7 := h_7.up hup
  replace h_14 := h_14.up hup
  replace h_15 := h_15.up hup
  replace h_18 := h_18.up hup
  replace h_19 := h_19.up hup
  replace hupw := hupw.trans hup
  clear hup
  have hk11c0 := hk11.cell (i := 0) rfl
  have hk11c1 := hk11.cell (i := 1) rfl
  have hk11c2 := hk11.cell (i := 2) rfl
  have hk11c3 := hk11.cell (i := 3) rfl
  have hk11l := hk11.lt
  have hk13c0 := hk13.cell (i := 0) rfl
  have hk13c1 := hk13.cell (i := 1) rfl
  have hk13c2 := hk13.cell (i := 2) rfl
  have hk13c3 := hk13.cell (i := 3) rfl
  have hk13l := hk13.lt
  go_wp2_with fail
  clear hk11c0 hk11c1 hk11c2 hk11c3 hk11l hk13c0 hk13c1 hk13c2 hk13c3 hk13l
  refine (requalF _ _ _ (Fz.mk h_14 h_15) (Fz.mk h_18 h_19)).mono ?_
  rintro e w22 ⟨rfl, hup⟩
  replace hk7 := hk7.up hup
  replace h_6 := h_6.up hup
  replace h_7 := h_7.up hup
  replace hupw := hupw.trans hup
  clear hup
  have hk7c0 := hk7.cell (i := 0) rfl
  have hk7c1 := hk7.cell (i := 1) rfl
  have hk7c2 := hk7.cell (i := 2) rfl
  have hk7c3 := hk7.cell (i := 3) rfl
  have hk7l := hk7.lt
  go_wp2_with fail
  clear hk7c0 hk7c1 hk7c2 hk7c3 hk7l
  refine (validRQ (Fz.mk h_6 h_7)).mono ?_
  rintro e w23 ⟨rfl, hup⟩
  replace hupw := hupw.trans hup
  clear hup
  go_wp2_with fail
  go_ret
  exact ⟨rfl, hupw⟩
set_option maxRecDepth 100000 in
theorem i64_wf {n : Int} (h : (Lit.int .i64 n).wf = true) : -9223372036854775808 ≤ n ∧ n ≤ 9223372036854775807 := by
  have h1 : IntKind.i64.min = -9223372036854775808 := rfl
  have h2 : IntKind.i64.max = 9223372036854775807 := rfl
  simp [Lit.wf, h1, h2] at h
  omega
set_option maxRecDepth 100000 in
theorem makeW (v v' : Value) (a b : Int) (w : World) (hp : Pow w) (h : RawIn w v) (h' : RawIn w v') (ha : -9223372036854775808 ≤ a ∧ a ≤ 9223372036854775807) (hb : -9223372036854775808 ≤ b ∧ b ≤ 9223372036854775807) :
    Calls Tryz.prog 3 #[v, v', .agg #[.int .i64 a, .int .i64 b]] w fun e w' => e = .returned (.bool true) ∧ Up w w' := by
  obtain ⟨s, A, n, c, l, rfl, h1, h2, h3, h4, h5⟩ := h
  obtain ⟨t, B, m, d, k, rfl, k1, k2, k3, k4, k5⟩ := h'
  by_cases hn : (n : Int) ≤ 36
  · by_cases hm : (m : Int) ≤ 36
    · have r0 : Az w (.agg #[.bool s, .slice A n c]) := ⟨s, l, ⟨A, n, c, rfl, h1, h3, h5⟩, h2, by have := h3.out; omega⟩
      have r1 : Az w (.agg #[.bool t, .slice B m d]) := ⟨t, k, ⟨B, m, d, rfl, k1, k3, k5⟩, k2, by have := k3.out; omega⟩
      have bad : (Bz w (.agg #[.bool s, .slice A n c]) ∨ Bz w (.agg #[.bool t, .slice B m d])) → Calls Tryz.prog 3 #[.agg #[.bool s, .slice A n c], .agg #[.bool t, .slice B m d], .agg #[.int .i64 a, .int .i64 b]] w fun e w' => e = .returned (.bool true) ∧ Up w w' := fun hB =>
        makeW_b s t A B n c m d a b w hp (decide_eq_true hn) (decide_eq_true hm) ha.1 ha.2 hb.1 hb.2 ⟨r0, r1, hB⟩
      rcases r0.or with q0 | ⟨x, q0⟩
      · exact bad (.inl q0)
      · rcases r1.or with q1 | ⟨y, q1⟩
        · exact bad (.inr q1)
        · by_cases hy : y = 0
          · exact makeW_0 s t A B n c m d a b w hp (decide_eq_true hn) (decide_eq_true hm) ha.1 ha.2 hb.1 hb.2 q0 q1 (show makeR x y = noR 8 by unfold makeR; rw [if_pos hy])
          · exact makeW_1 s t A B n c m d a b w hp (decide_eq_true hn) (decide_eq_true hm) ha.1 ha.2 hb.1 hb.2 q0 q1 (show makeR x y = okR (fr x y) by unfold makeR; rw [if_neg hy])
    · exact makeW_y s t A B n c m d a b w hp (decide_eq_true hn) (decide_eq_false hm)
  · exact makeW_x s t A B n c m d a b w hp (decide_eq_false hn)
open Go.ChangeShapes Go.WideShapes Go.ChangeAt Go.Joins Go.Deep
set_option maxRecDepth 100000 in
theorem arr2_open {H : Type} {enc : TypeId × Value → H} {w : World} {held : Bool} {base : Nat} {t e : TypeId} {k : IntKind} {v : Value} {d : DataW H} {p : List MemPlace} (ht : Tryz.prog.underlying t = some (.array 2 e)) (he : Tryz.prog.underlying e = some (.int k)) (hce : Tryz.prog.cellsOf e = 1) (hC : Tryz.prog.cellsOf t = 2)
    (hv : Value.okWide Tryz.prog w .any base t v) (h : DataW.Trod enc Tryz.prog w 0 (fun _ => true) held t v d p) : ∃ a b : Int, v = .agg #[.int k a, .int k b] ∧ (Lit.int k a).wf = true ∧ (Lit.int k b).wf = true := by
  simp only [Value.okWide, ht] at hv
  obtain ⟨cs, rfl, hsz, _⟩ := hv
  obtain ⟨c0, c1, rfl⟩ := array2 (hsz.trans hC)
  obtain ⟨fuel, hf⟩ := h
  have hf2 : DataW.trod enc Tryz.prog w 0 (fun _ => true) held fuel t [c0, c1] = some (d, p) := by simpa [Value.cells] using hf
  obtain ⟨xs, m, _, hx, hl, hlen, hi⟩ := DataW.trod_array ht hf2
  have g0 := hi 0 (by decide)
  have g1 := hi 1 (by decide)
  match xs, hlen with
  | [y0, y1], _ =>
    have e0 : DataW.trod enc Tryz.prog w 0 (fun _ => true) held m e [c0] = some y0 := by simpa [hce] using g0
    have e1 : DataW.trod enc Tryz.prog w 0 (fun _ => true) held m e [c1] = some y1 := by simpa [hce] using g1
    obtain ⟨a, q0, _, w0⟩ := DataW.trod_int he e0
    obtain ⟨b, q1, _, w1⟩ := DataW.trod_int he e1
    simp at q0 q1
    subst q0; subst q1
    exact ⟨a, b, rfl, w0, w1⟩

end Go.Proofs.YtldifgfpecicnaaGreatDoor
