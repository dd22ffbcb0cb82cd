/- Decimal of the program. -/
import Derived.Test.YtldifgfpecicnaaGreatDoorRPt
namespace Go.Proofs.YtldifgfpecicnaaGreatDoor
open Go.RowKit

set_option maxRecDepth 100000 in
set_option maxHeartbeats 4000000 in
theorem decN (z : Int) (v0 : Value) (w : World) (h0 : Nz w v0) :
    Calls Tryz.prog 30 #[v0, .int .i64 z] w (PSE w ⟨#[]⟩ 1) := by
  obtain ⟨s0, A0, n0, c0, t0, B0, m0, d0, rfl⟩ := h0.agg4
  have hupw : Up w w := Up.refl w
  go_enter Tryz.func30, Tryz.ntmps30
  go_wp2_with fail
  obtain ⟨wa1, hwa1⟩ : ∃ x, x = (w.alloc (.cells #[.bool s0, .slice A0 n0 c0, .bool t0, .slice B0 m0 d0] 29)) := ⟨_, rfl⟩
  have hup : Up w wa1 := by rw [hwa1]; exact ((Up.refl w).alloc _)
  have hzwa1 : w.heap.size ≤ w.heap.size := hupw.size
  replace h0 := h0.up hup
  replace hupw := hupw.trans hup
  clear hup
  have hk2 : Bk wa1 (w.heap.size) 29 #[.bool s0, .slice A0 n0 c0, .bool t0, .slice B0 m0 d0] := by
    have := (Bk.new w 29 #[.bool s0, .slice A0 n0 c0, .bool t0, .slice B0 m0 d0])
    rw [hwa1]; simpa using this
  rw [← hwa1]
  clear hwa1
  refine (validNQ h0).mono ?_
  rintro e w2 ⟨rfl, hup⟩
  replace hupw := hupw.trans hup
  clear hup
  go_wp2_with fail
  go_ret2
  exact ⟨rfl, hupw⟩
set_option maxRecDepth 100000 in
set_option maxHeartbeats 4000000 in
theorem decL {r : Rat} (z : Int) (v0 : Value) (w : World) (f0 : Fz w v0 (nm r) (dn r)) (hz : z < 0) :
    Calls Tryz.prog 30 #[v0, .int .i64 z] w (PSE w ⟨#[]⟩ 7) := by
  obtain ⟨s0, A0, n0, c0, t0, B0, m0, d0, rfl, h0, k0⟩ := f0
  have hupw : Up w w := Up.refl w
  go_enter Tryz.func30, Tryz.ntmps30
  go_wp2_with fail
  obtain ⟨wa1, hwa1⟩ : ∃ x, x = (w.alloc (.cells #[.bool s0, .slice A0 n0 c0, .bool t0, .slice B0 m0 d0] 29)) := ⟨_, rfl⟩
  have hup : Up w wa1 := by rw [hwa1]; exact ((Up.refl w).alloc _)
  have hzwa1 : w.heap.size ≤ w.heap.size := hupw.size
  replace h0 := h0.up hup
  replace k0 := k0.up hup
  replace hupw := hupw.trans hup
  clear hup
  have hk2 : Bk wa1 (w.heap.size) 29 #[.bool s0, .slice A0 n0 c0, .bool t0, .slice B0 m0 d0] := by
    have := (Bk.new w 29 #[.bool s0, .slice A0 n0 c0, .bool t0, .slice B0 m0 d0])
    rw [hwa1]; simpa using this
  rw [← hwa1]
  clear hwa1
  refine (validRQ (Fz.mk h0 k0)).mono ?_
  rintro e w2 ⟨rfl, hup⟩
  replace hupw := hupw.trans hup
  clear hup
  go_wp2_with fail
  go_ret2
  exact ⟨rfl, hupw⟩
set_option maxRecDepth 100000 in
set_option maxHeartbeats 4000000 in
theorem decG {r : Rat} (z : Int) (v0 : Value) (w : World) (f0 : Fz w v0 (nm r) (dn r)) (hz : ¬ z < 0) (hz2 : 20 < z) :
    Calls Tryz.prog 30 #[v0, .int .i64 z] w (PSE w ⟨#[]⟩ 7) := by
  obtain ⟨s0, A0, n0, c0, t0, B0, m0, d0, rfl, h0, k0⟩ := f0
  have hupw : Up w w := Up.refl w
  go_enter Tryz.func30, Tryz.ntmps30
  go_wp2_with fail
  obtain ⟨wa1, hwa1⟩ : ∃ x, x = (w.alloc (.cells #[.bool s0, .slice A0 n0 c0, .bool t0, .slice B0 m0 d0] 29)) := ⟨_, rfl⟩
  have hup : Up w wa1 := by rw [hwa1]; exact ((Up.refl w).alloc _)
  have hzwa1 : w.heap.size ≤ w.heap.size := hupw.size
  replace h0 := h0.up hup
  replace k0 := k0.up hup
  replace hupw := hupw.trans hup
  clear hup
  have hk2 : Bk wa1 (w.heap.size) 29 #[.bool s0, .slice A0 n0 c0, .bool t0, .slice B0 m0 d0] := by
    have := (Bk.new w 29 #[.bool s0, .slice A0 n0 c0, .bool t0, .slice B0 m0 d0])
    rw [hwa1]; simpa using this
  rw [← hwa1]
  clear hwa1
  refine (validRQ (Fz.mk h0 k0)).mono ?_
  rintro e w2 ⟨rfl, hup⟩
  replace hupw := hupw.trans hup
  clear hup
  go_wp2_with fail
  go_ret2
  exact ⟨rfl, hupw⟩
theorem parsP {w : World} {s : ByteArray} {p : Int} (hs : s.size ≤ 1000) (h : okS s = true) (hv : Hid (valS s = p)) : Calls Tryz.prog 67 #[.string s] w (PIE w p 0) := by
  rw [← hv.out]; exact parsY hs h
set_option maxRecDepth 100000 in
set_option maxHeartbeats 4000000 in
theorem decE {r : Rat} (d : Nat) (p : Int) (v0 : Value) (w : World) (f0 : Fz w v0 (nm r) (dn r)) (_hp : Pow w) (hd : d ≤ 20) (hsz : ¬ 9223372036854775807 < (⟨#[49]⟩ : ByteArray).size + (bs (List.replicate d 48)).size) (hs1 : (⟨#[49]⟩ ++ bs (List.replicate d 48) : ByteArray).size ≤ 1000) (hok : okS (⟨#[49]⟩ ++ bs (List.replicate d 48)) = true) (Hp : Hid (valS (⟨#[49]⟩ ++ bs (List.replicate d 48)) = p)) (hb : okB (nm r * p) = false) :
    Calls Tryz.prog 30 #[v0, .int .i64 (d : Int)] w (PSE w ⟨#[]⟩ 3) := by
  obtain ⟨s0, A0, n0, c0, t0, B0, m0, d0, rfl, h0, k0⟩ := f0
  have hupw : Up w w := Up.refl w
  go_enter Tryz.func30, Tryz.ntmps30
  go_wp2_with fail
  obtain ⟨wa1, hwa1⟩ : ∃ x, x = (w.alloc (.cells #[.bool s0, .slice A0 n0 c0, .bool t0, .slice B0 m0 d0] 29)) := ⟨_, rfl⟩
  have hup : Up w wa1 := by rw [hwa1]; exact ((Up.refl w).alloc _)
  have hzwa1 : w.heap.size ≤ w.heap.size := hupw.size
  replace h0 := h0.up hup
  replace k0 := k0.up hup
  replace hupw := hupw.trans hup
  clear hup
  have hk2 : Bk wa1 (w.heap.size) 29 #[.bool s0, .slice A0 n0 c0, .bool t0, .slice B0 m0 d0] := by
    have := (Bk.new w 29 #[.bool s0, .slice A0 n0 c0, .bool t0, .slice B0 m0 d0])
    rw [hwa1]; simpa using this
  rw [← hwa1]
  clear hwa1
  refine (validRQ (Fz.mk h0 k0)).mono ?_
  rintro e w2 ⟨rfl, hup⟩
  replace hk2 := hk2.up hup
  replace h0 := h0.up hup
  replace hupw := hupw.trans hup
  clear hup
  go_wp2_with fail
  refine (repQ d _ (by omega)).mono ?_
  rintro e w3 ⟨rfl, hup⟩
  replace hk2 := hk2.up hup
  replace h0 := h0.up hup
  replace hupw := hupw.trans hup
  clear hup
  go_wp2_with fail
  refine (parsP hs1 hok Hp).mono ?_
  rintro e w4 ⟨v_5, rfl, h_5, hup⟩
  replace hk2 := hk2.up hup
  replace h0 := h0.up hup
  replace hupw := hupw.trans hup
  clear hup
  obtain ⟨s_5, A_5, n_5, c_5, rfl⟩ := h_5.agg
  have hk2c0 := hk2.cell (i := 0) rfl
  have hk2c1 := hk2.cell (i := 1) rfl
  have hk2c2 := hk2.cell (i := 2) rfl
  have hk2c3 := hk2.cell (i := 3) rfl
  have hk2l := hk2.lt
  go_wp2_with fail
  clear hk2c0 hk2c1 hk2c2 hk2c3 hk2l
  obtain ⟨wa6, hwa6⟩ : ∃ x, x = (w4.alloc (.cells #[.bool s_5, .slice A_5 n_5 c_5] 24)) := ⟨_, rfl⟩
  have hup : Up w4 wa6 := by rw [hwa6]; exact ((Up.refl w4).alloc _)
  have howa6 : w.heap.size < w4.heap.size := hk2.lt
  have hzwa6 : w.heap.size ≤ w4.heap.size := hupw.size
  replace h0 := h0.up hup
  replace h_5 := h_5.up hup
  replace hupw := hupw.trans hup
  clear hup
  have hk6 : Bk wa6 (w4.heap.size) 24 #[.bool s_5, .slice A_5 n_5 c_5] := by
    have := (Bk.new w4 24 #[.bool s_5, .slice A_5 n_5 c_5])
    rw [hwa6]; simpa using this
  rw [← hwa6]
  clear hwa6
  refine (mulN h0 h_5 hb).mono ?_
  rintro e w7 ⟨v_8, rfl, h_8, hup⟩
  replace hk6 := hk6.up hup
  replace hupw := hupw.trans hup
  clear hup
  obtain ⟨s_8, A_8, n_8, c_8, rfl⟩ := h_8.agg
  go_wp2_with fail
  obtain ⟨wa9, hwa9⟩ : ∃ x, x = (w7.alloc (.cells #[.bool s_8, .slice A_8 n_8 c_8] 24)) := ⟨_, rfl⟩
  have hup : Up w7 wa9 := by rw [hwa9]; exact ((Up.refl w7).alloc _)
  have howa9 : w4.heap.size < w7.heap.size := hk6.lt
  have hzwa9 : w.heap.size ≤ w7.heap.size := hupw.size
  replace hupw := hupw.trans hup
  clear hup
  have hk8 : Bk wa9 (w7.heap.size) 24 #[.bool s_8, .slice A_8 n_8 c_8] := by
    have := (Bk.new w7 24 #[.bool s_8, .slice A_8 n_8 c_8])
    rw [hwa9]; simpa using this
  rw [← hwa9]
  clear hwa9
  go_ret2
  exact ⟨rfl, hupw⟩
set_option maxRecDepth 100000 in
set_option maxHeartbeats 4000000 in
theorem decY {r : Rat} (d : Nat) (p : Int) (v0 : Value) (w : World) (f0 : Fz w v0 (nm r) (dn r)) (hp : Pow w) (hd : d ≤ 20) (hsz : ¬ 9223372036854775807 < (⟨#[49]⟩ : ByteArray).size + (bs (List.replicate d 48)).size) (hs1 : (⟨#[49]⟩ ++ bs (List.replicate d 48) : ByteArray).size ≤ 1000) (hok : okS (⟨#[49]⟩ ++ bs (List.replicate d 48)) = true) (Hp : Hid (valS (⟨#[49]⟩ ++ bs (List.replicate d 48)) = p)) (hb : okB (nm r * p) = true) (hq : ((nm r * p).tdiv (dn r)).natAbs < top300) :
    Calls Tryz.prog 30 #[v0, .int .i64 (d : Int)] w (PSE w (decT ((nm r * p).tdiv (dn r)) d) 0) := by
  obtain ⟨s0, A0, n0, c0, t0, B0, m0, d0, rfl, h0, k0⟩ := f0
  have hupw : Up w w := Up.refl w
  go_enter Tryz.func30, Tryz.ntmps30
  go_wp2_with fail
  obtain ⟨wa1, hwa1⟩ : ∃ x, x = (w.alloc (.cells #[.bool s0, .slice A0 n0 c0, .bool t0, .slice B0 m0 d0] 29)) := ⟨_, rfl⟩
  have hup : Up w wa1 := by rw [hwa1]; exact ((Up.refl w).alloc _)
  have hzwa1 : w.heap.size ≤ w.heap.size := hupw.size
  replace h0 := h0.up hup
  replace k0 := k0.up hup
  replace hupw := hupw.trans hup
  clear hup
  have hk2 : Bk wa1 (w.heap.size) 29 #[.bool s0, .slice A0 n0 c0, .bool t0, .slice B0 m0 d0] := by
    have := (Bk.new w 29 #[.bool s0, .slice A0 n0 c0, .bool t0, .slice B0 m0 d0])
    rw [hwa1]; simpa using this
  rw [← hwa1]
  clear hwa1
  refine (validRQ (Fz.mk h0 k0)).mono ?_
  rintro e w2 ⟨rfl, hup⟩
  replace hk2 := hk2.up hup
  replace h0 := h0.up hup
  replace k0 := k0.up hup
  replace hupw := hupw.trans hup
  clear hup
  go_wp2_with fail
  refine (repQ d _ (by omega)).mono ?_
  rintro e w3 ⟨rfl, hup⟩
  replace hk2 := hk2.up hup
  replace h0 := h0.up hup
  replace k0 := k0.up hup
  replace hupw := hupw.trans hup
  clear hup
  go_wp2_with fail
  refine (parsP hs1 hok Hp).mono ?_
  rintro e w4 ⟨v_5, rfl, h_5, hup⟩
  replace hk2 := hk2.up hup
  replace h0 := h0.up hup
  replace k0 := k0.up hup
  replace hupw := hupw.trans hup
  clear hup
  obtain ⟨s_5, A_5, n_5, c_5, rfl⟩ := h_5.agg
  have hk2c0 := hk2.cell (i := 0) rfl
  have hk2c1 := hk2.cell (i := 1) rfl
  have hk2c2 := hk2.cell (i := 2) rfl
  have hk2c3 := hk2.cell (i := 3) rfl
  have hk2l := hk2.lt
  go_wp2_with fail
  clear hk2c0 hk2c1 hk2c2 hk2c3 hk2l
  obtain ⟨wa6, hwa6⟩ : ∃ x, x = (w4.alloc (.cells #[.bool s_5, .slice A_5 n_5 c_5] 24)) := ⟨_, rfl⟩
  have hup : Up w4 wa6 := by rw [hwa6]; exact ((Up.refl w4).alloc _)
  have howa6 : w.heap.size < w4.heap.size := hk2.lt
  have hzwa6 : w.heap.size ≤ w4.heap.size := hupw.size
  replace hk2 := hk2.up hup
  replace h0 := h0.up hup
  replace k0 := k0.up hup
  replace h_5 := h_5.up hup
  replace hupw := hupw.trans hup
  clear hup
  have hk6 : Bk wa6 (w4.heap.size) 24 #[.bool s_5, .slice A_5 n_5 c_5] := by
    have := (Bk.new w4 24 #[.bool s_5, .slice A_5 n_5 c_5])
    rw [hwa6]; simpa using this
  rw [← hwa6]
  clear hwa6
  refine (mulQ h0 h_5 hb).mono ?_
  rintro e w7 ⟨v_8, rfl, h_8, hup⟩
  replace hk2 := hk2.up hup
  replace hk6 := hk6.up hup
  replace k0 := k0.up hup
  replace hupw := hupw.trans hup
  clear hup
  obtain ⟨s_8, A_8, n_8, c_8, rfl⟩ := h_8.agg
  have hk2c0 := hk2.cell (i := 0) rfl
  have hk2c1 := hk2.cell (i := 1) rfl
  have hk2c2 := hk2.cell (i := 2) rfl
  have hk2c3 := hk2.cell (i := 3) rfl
  have hk2l := hk2.lt
  go_wp2_with fail
  clear hk2c0 hk2c1 hk2c2 hk2c3 hk2l
  obtain ⟨wa9, hwa9⟩ : ∃ x, x = (w7.alloc (.cells #[.bool s_8, .slice A_8 n_8 c_8] 24)) := ⟨_, rfl⟩
  have hup : Up w7 wa9 := by rw [hwa9]; exact ((Up.refl w7).alloc _)
  have howa9 : w4.heap.size < w7.heap.size := hk6.lt
  have hzwa9 : w.heap.size ≤ w7.heap.size := hupw.size
  replace k0 := k0.up hup
  replace h_8 := h_8.up hup
  replace hupw := hupw.trans hup
  clear hup
  have hk8 : Bk wa9 (w7.heap.size) 24 #[.bool s_8, .slice A_8 n_8 c_8] := by
    have := (Bk.new w7 24 #[.bool s_8, .slice A_8 n_8 c_8])
    rw [hwa9]; simpa using this
  rw [← hwa9]
  clear hwa9
  refine (divQ h_8 k0 (dn_ne r)).mono ?_
  rintro e w10 ⟨v_11, v_12, rfl, h_11, h_12, hup⟩
  replace hk8 := hk8.up hup
  replace hupw := hupw.trans hup
  clear hup
  obtain ⟨s_11, A_11, n_11, c_11, rfl⟩ := h_11.agg
  obtain ⟨s_12, A_12, n_12, c_12, rfl⟩ := h_12.agg
  go_wp2_with fail
  obtain ⟨wa13, hwa13⟩ : ∃ x, x = ((w10.alloc (.cells #[.bool s_11, .slice A_11 n_11 c_11] 24)).alloc (.cells #[.bool s_12, .slice A_12 n_12 c_12] 24)) := ⟨_, rfl⟩
  have hup : Up w10 wa13 := by rw [hwa13]; exact (((Up.refl w10).alloc _).alloc _)
  have howa13 : w7.heap.size < w10.heap.size := hk8.lt
  have hzwa13 : w.heap.size ≤ w10.heap.size := hupw.size
  replace h_11 := h_11.up hup
  replace hupw := hupw.trans hup
  clear hup
  have hk10 : Bk wa13 (w10.heap.size) 24 #[.bool s_11, .slice A_11 n_11 c_11] := by
    have := ((Bk.new w10 24 #[.bool s_11, .slice A_11 n_11 c_11]).alloc (.cells #[.bool s_12, .slice A_12 n_12 c_12] 24))
    rw [hwa13]; simpa using this
  have hk11 : Bk wa13 (w10.heap.size + 1) 24 #[.bool s_12, .slice A_12 n_12 c_12] := by
    have := (Bk.new (w10.alloc (.cells #[.bool s_11, .slice A_11 n_11 c_11] 24)) 24 #[.bool s_12, .slice A_12 n_12 c_12])
    rw [hwa13]; simpa using this
  rw [← hwa13]
  clear hwa13
  refine (formatQ h_11 (hp.up hupw)).mono ?_
  rintro e w14 ⟨rfl, hup⟩
  replace hupw := hupw.trans hup
  clear hup
  go_wp2_with fail
  refine (pointQ hq d hd).mono ?_
  rintro e w15 ⟨rfl, hup⟩
  replace hupw := hupw.trans hup
  clear hup
  go_wp2_with fail
  go_ret2
  exact ⟨rfl, hupw⟩
/-- What Decimal gives. -/
def decB (r : Rat) (d : Nat) : Bool := okB (nm r * 10 ^ d)
def decS (r : Rat) (d : Nat) : ByteArray := if decB r d then decT ((nm r * 10 ^ d).tdiv (dn r)) d else ⟨#[]⟩
def decK (r : Rat) (d : Nat) : Int := if decB r d then 0 else 3
theorem decRQ {w : World} {v : Value} {r : Rat} (h : Rz w v r) (hp : Pow w) (d : Nat) (hd : d ≤ 20) : Calls Tryz.prog 30 #[v, .int .i64 (d : Int)] w (PSE w (decS r d) (decK r d)) := by
  obtain ⟨h1, h2⟩ := powOK d hd
  have e1 : (⟨#[49]⟩ : ByteArray).size = 1 := rfl
  have hsz : ¬ 9223372036854775807 < (⟨#[49]⟩ : ByteArray).size + (bs (List.replicate d 48)).size := by rw [rep_size, e1]; omega
  have hs1 : (⟨#[49]⟩ ++ bs (List.replicate d 48) : ByteArray).size ≤ 1000 := by rw [ByteArray.size_append, rep_size, e1]; omega
  unfold decS decK decB
  cases hb : okB (nm r * 10 ^ d) with
  | false => exact decE d _ v w h hp hd hsz hs1 h1 h2 hb
  | true => exact decY d _ v w h hp hd hsz hs1 h1 h2 hb (tdiv_top2 _ (okB_lt hb))
theorem decXQ {w : World} {v : Value} {r : Rat} (h : Rz w v r) (z : Int) (hz : z < 0 ∨ 20 < z) : Calls Tryz.prog 30 #[v, .int .i64 z] w (PSE w ⟨#[]⟩ 7) := by
  by_cases h0 : z < 0
  · exact decL z v w h h0
  · exact decG z v w h h0 (by omega)

end Go.Proofs.YtldifgfpecicnaaGreatDoor
