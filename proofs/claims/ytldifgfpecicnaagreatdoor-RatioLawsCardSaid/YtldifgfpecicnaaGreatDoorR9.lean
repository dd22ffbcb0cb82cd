/- Format of fractions, both sides. -/
import Derived.Test.YtldifgfpecicnaaGreatDoorRTxt
namespace Go.Proofs.YtldifgfpecicnaaGreatDoor
open Go.RowKit

set_option maxRecDepth 100000 in
set_option maxHeartbeats 4000000 in
theorem fmtN (v0 : Value) (w : World) (h0 : Nz w v0) :
    Calls Tryz.prog 29 #[v0] w (PSE w ⟨#[]⟩ 1) := by
  obtain ⟨s0, A0, n0, c0, t0, B0, m0, d0, rfl⟩ := h0.agg4
  have hupw : Up w w := Up.refl w
  go_enter Tryz.func29, Tryz.ntmps29
  go_wp2_with fail
  obtain ⟨wa1, hwa1⟩ : ∃ x, x = (w.alloc (.cells #[.bool s0, .slice A0 n0 c0, .bool t0, .slice B0 m0 d0] 29)) := ⟨_, rfl⟩
  have hup : Up w wa1 := by rw [hwa1]; exact ((Up.refl w).alloc _)
  have hzwa1 : w.heap.size ≤ w.heap.size := hupw.size
  replace h0 := h0.up hup
  replace hupw := hupw.trans hup
  clear hup
  have hk1 : Bk wa1 (w.heap.size) 29 #[.bool s0, .slice A0 n0 c0, .bool t0, .slice B0 m0 d0] := by
    have := (Bk.new w 29 #[.bool s0, .slice A0 n0 c0, .bool t0, .slice B0 m0 d0])
    rw [hwa1]; simpa using this
  rw [← hwa1]
  clear hwa1
  refine (validNQ h0).mono ?_
  rintro e w2 ⟨rfl, hup⟩
  replace hupw := hupw.trans hup
  clear hup
  go_wp2_with fail
  go_ret2
  exact ⟨rfl, hupw⟩
set_option maxRecDepth 100000 in
set_option maxHeartbeats 4000000 in
theorem fmt1 {r : Rat} (v0 : Value) (w : World) (f0 : Fz w v0 (nm r) (dn r)) (hp : Pow w) (hd : dn r = 1) :
    Calls Tryz.prog 29 #[v0] w (PSE w (bs (itxt (nm r))) 0) := by
  obtain ⟨s0, A0, n0, c0, t0, B0, m0, d0, rfl, h0, k0⟩ := f0
  have hupw : Up w w := Up.refl w
  go_enter Tryz.func29, Tryz.ntmps29
  go_wp2_with fail
  obtain ⟨wa1, hwa1⟩ : ∃ x, x = (w.alloc (.cells #[.bool s0, .slice A0 n0 c0, .bool t0, .slice B0 m0 d0] 29)) := ⟨_, rfl⟩
  have hup : Up w wa1 := by rw [hwa1]; exact ((Up.refl w).alloc _)
  have hzwa1 : w.heap.size ≤ w.heap.size := hupw.size
  replace h0 := h0.up hup
  replace k0 := k0.up hup
  replace hupw := hupw.trans hup
  clear hup
  have hk1 : Bk wa1 (w.heap.size) 29 #[.bool s0, .slice A0 n0 c0, .bool t0, .slice B0 m0 d0] := by
    have := (Bk.new w 29 #[.bool s0, .slice A0 n0 c0, .bool t0, .slice B0 m0 d0])
    rw [hwa1]; simpa using this
  rw [← hwa1]
  clear hwa1
  refine (validRQ (Fz.mk h0 k0)).mono ?_
  rintro e w2 ⟨rfl, hup⟩
  replace hk1 := hk1.up hup
  replace h0 := h0.up hup
  replace k0 := k0.up hup
  replace hupw := hupw.trans hup
  clear hup
  have hk1c0 := hk1.cell (i := 0) rfl
  have hk1c1 := hk1.cell (i := 1) rfl
  have hk1c2 := hk1.cell (i := 2) rfl
  have hk1c3 := hk1.cell (i := 3) rfl
  have hk1l := hk1.lt
  go_wp2_with fail
  clear hk1c0 hk1c1 hk1c2 hk1c3 hk1l
  refine (formatQ h0 (hp.up hupw)).mono ?_
  rintro e w3 ⟨rfl, hup⟩
  replace hk1 := hk1.up hup
  replace k0 := k0.up hup
  replace hupw := hupw.trans hup
  clear hup
  have hk1c0 := hk1.cell (i := 0) rfl
  have hk1c1 := hk1.cell (i := 1) rfl
  have hk1c2 := hk1.cell (i := 2) rfl
  have hk1c3 := hk1.cell (i := 3) rfl
  have hk1l := hk1.lt
  go_wp2_with fail
  clear hk1c0 hk1c1 hk1c2 hk1c3 hk1l
  refine (oneT k0 hd).mono ?_
  rintro e w4 ⟨rfl, hup⟩
  replace hupw := hupw.trans hup
  clear hup
  go_wp2_with fail
  go_ret2
  exact ⟨rfl, hupw⟩
set_option maxRecDepth 100000 in
set_option maxHeartbeats 4000000 in
theorem fmt2 {r : Rat} (v0 : Value) (w : World) (f0 : Fz w v0 (nm r) (dn r)) (hp : Pow w) (hd : dn r ≠ 1) (hz1 : ¬ 9223372036854775807 < (bs (itxt (nm r))).size + (⟨#[47]⟩ : ByteArray).size) (hz2 : ¬ 9223372036854775807 < (bs (itxt (nm r)) ++ ⟨#[47]⟩ : ByteArray).size + (bs (itxt (dn r))).size) :
    Calls Tryz.prog 29 #[v0] w (PSE w (bs (itxt (nm r)) ++ ⟨#[47]⟩ ++ bs (itxt (dn r))) 0) := by
  obtain ⟨s0, A0, n0, c0, t0, B0, m0, d0, rfl, h0, k0⟩ := f0
  have hupw : Up w w := Up.refl w
  go_enter Tryz.func29, Tryz.ntmps29
  go_wp2_with fail
  obtain ⟨wa1, hwa1⟩ : ∃ x, x = (w.alloc (.cells #[.bool s0, .slice A0 n0 c0, .bool t0, .slice B0 m0 d0] 29)) := ⟨_, rfl⟩
  have hup : Up w wa1 := by rw [hwa1]; exact ((Up.refl w).alloc _)
  have hzwa1 : w.heap.size ≤ w.heap.size := hupw.size
  replace h0 := h0.up hup
  replace k0 := k0.up hup
  replace hupw := hupw.trans hup
  clear hup
  have hk1 : Bk wa1 (w.heap.size) 29 #[.bool s0, .slice A0 n0 c0, .bool t0, .slice B0 m0 d0] := by
    have := (Bk.new w 29 #[.bool s0, .slice A0 n0 c0, .bool t0, .slice B0 m0 d0])
    rw [hwa1]; simpa using this
  rw [← hwa1]
  clear hwa1
  refine (validRQ (Fz.mk h0 k0)).mono ?_
  rintro e w2 ⟨rfl, hup⟩
  replace hk1 := hk1.up hup
  replace h0 := h0.up hup
  replace k0 := k0.up hup
  replace hupw := hupw.trans hup
  clear hup
  have hk1c0 := hk1.cell (i := 0) rfl
  have hk1c1 := hk1.cell (i := 1) rfl
  have hk1c2 := hk1.cell (i := 2) rfl
  have hk1c3 := hk1.cell (i := 3) rfl
  have hk1l := hk1.lt
  go_wp2_with fail
  clear hk1c0 hk1c1 hk1c2 hk1c3 hk1l
  refine (formatQ h0 (hp.up hupw)).mono ?_
  rintro e w3 ⟨rfl, hup⟩
  replace hk1 := hk1.up hup
  replace k0 := k0.up hup
  replace hupw := hupw.trans hup
  clear hup
  have hk1c0 := hk1.cell (i := 0) rfl
  have hk1c1 := hk1.cell (i := 1) rfl
  have hk1c2 := hk1.cell (i := 2) rfl
  have hk1c3 := hk1.cell (i := 3) rfl
  have hk1l := hk1.lt
  go_wp2_with fail
  clear hk1c0 hk1c1 hk1c2 hk1c3 hk1l
  refine (oneF k0 hd).mono ?_
  rintro e w4 ⟨rfl, hup⟩
  replace hk1 := hk1.up hup
  replace k0 := k0.up hup
  replace hupw := hupw.trans hup
  clear hup
  have hk1c0 := hk1.cell (i := 0) rfl
  have hk1c1 := hk1.cell (i := 1) rfl
  have hk1c2 := hk1.cell (i := 2) rfl
  have hk1c3 := hk1.cell (i := 3) rfl
  have hk1l := hk1.lt
  go_wp2_with fail
  clear hk1c0 hk1c1 hk1c2 hk1c3 hk1l
  refine (formatQ k0 (hp.up hupw)).mono ?_
  rintro e w5 ⟨rfl, hup⟩
  replace hupw := hupw.trans hup
  clear hup
  go_wp2_with fail
  go_ret2
  exact ⟨rfl, hupw⟩
set_option maxRecDepth 100000 in
set_option maxHeartbeats 4000000 in
theorem rfmtN (v0 : Value) (w : World) (h0 : Nz w v0) :
    Calls Tryz.prog 39 #[v0] w (PSE w ⟨#[]⟩ 1) := by
  obtain ⟨s0, A0, n0, c0, t0, B0, m0, d0, rfl⟩ := h0.agg4
  have hupw : Up w w := Up.refl w
  go_enter Tryz.func39, Tryz.ntmps39
  go_wp2_with fail
  obtain ⟨wa1, hwa1⟩ : ∃ x, x = (w.alloc (.cells #[.bool s0, .slice A0 n0 c0, .bool t0, .slice B0 m0 d0] 29)) := ⟨_, rfl⟩
  have hup : Up w wa1 := by rw [hwa1]; exact ((Up.refl w).alloc _)
  have hzwa1 : w.heap.size ≤ w.heap.size := hupw.size
  replace h0 := h0.up hup
  replace hupw := hupw.trans hup
  clear hup
  have hk1 : Bk wa1 (w.heap.size) 29 #[.bool s0, .slice A0 n0 c0, .bool t0, .slice B0 m0 d0] := by
    have := (Bk.new w 29 #[.bool s0, .slice A0 n0 c0, .bool t0, .slice B0 m0 d0])
    rw [hwa1]; simpa using this
  rw [← hwa1]
  clear hwa1
  refine (rvalidNQ h0).mono ?_
  rintro e w2 ⟨rfl, hup⟩
  replace hupw := hupw.trans hup
  clear hup
  go_wp2_with fail
  go_ret2
  exact ⟨rfl, hupw⟩
set_option maxRecDepth 100000 in
set_option maxHeartbeats 4000000 in
theorem rfmt1 {r : Rat} (v0 : Value) (w : World) (f0 : Fz w v0 (nm r) (dn r)) (hd : dn r = 1) :
    Calls Tryz.prog 39 #[v0] w (PSE w (bs (itxt (nm r))) 0) := by
  obtain ⟨s0, A0, n0, c0, t0, B0, m0, d0, rfl, h0, k0⟩ := f0
  have hupw : Up w w := Up.refl w
  go_enter Tryz.func39, Tryz.ntmps39
  go_wp2_with fail
  obtain ⟨wa1, hwa1⟩ : ∃ x, x = (w.alloc (.cells #[.bool s0, .slice A0 n0 c0, .bool t0, .slice B0 m0 d0] 29)) := ⟨_, rfl⟩
  have hup : Up w wa1 := by rw [hwa1]; exact ((Up.refl w).alloc _)
  have hzwa1 : w.heap.size ≤ w.heap.size := hupw.size
  replace h0 := h0.up hup
  replace k0 := k0.up hup
  replace hupw := hupw.trans hup
  clear hup
  have hk1 : Bk wa1 (w.heap.size) 29 #[.bool s0, .slice A0 n0 c0, .bool t0, .slice B0 m0 d0] := by
    have := (Bk.new w 29 #[.bool s0, .slice A0 n0 c0, .bool t0, .slice B0 m0 d0])
    rw [hwa1]; simpa using this
  rw [← hwa1]
  clear hwa1
  refine (rvalidRQ (Fz.mk h0 k0)).mono ?_
  rintro e w2 ⟨rfl, hup⟩
  replace hk1 := hk1.up hup
  replace h0 := h0.up hup
  replace k0 := k0.up hup
  replace hupw := hupw.trans hup
  clear hup
  have hk1c0 := hk1.cell (i := 0) rfl
  have hk1c1 := hk1.cell (i := 1) rfl
  have hk1c2 := hk1.cell (i := 2) rfl
  have hk1c3 := hk1.cell (i := 3) rfl
  have hk1l := hk1.lt
  go_wp2_with fail
  clear hk1c0 hk1c1 hk1c2 hk1c3 hk1l
  refine (rformatQ h0).mono ?_
  rintro e w3 ⟨rfl, hup⟩
  replace hk1 := hk1.up hup
  replace k0 := k0.up hup
  replace hupw := hupw.trans hup
  clear hup
  go_wp2_with fail
  have kk1_0 : w3.cell? ⟨w.heap.size, 0, none⟩ = some (.bool s0) := hk1.cell (i := 0) rfl
  have kk1_1 : w3.cell? ⟨w.heap.size, 1, none⟩ = some (.slice A0 n0 c0) := hk1.cell (i := 1) rfl
  have kk1_2 : w3.cell? ⟨w.heap.size, 2, none⟩ = some (.bool t0) := hk1.cell (i := 2) rfl
  have kk1_3 : w3.cell? ⟨w.heap.size, 3, none⟩ = some (.slice B0 m0 d0) := hk1.cell (i := 3) rfl
  have hupA : Up w3 w3.drew := (Up.refl w3).drew
  go_region_held3 (fun w' => w'.cell? ⟨w.heap.size, 0, none⟩ = some (.bool s0) ∧ w'.cell? ⟨w.heap.size, 1, none⟩ = some (.slice A0 n0 c0) ∧ w'.cell? ⟨w.heap.size, 2, none⟩ = some (.bool t0) ∧ w'.cell? ⟨w.heap.size, 3, none⟩ = some (.slice B0 m0 d0))
    (exact ⟨hupA.keep kk1_0, hupA.keep kk1_1, hupA.keep kk1_2, hupA.keep kk1_3⟩)
    (first | (go_at_call 52; refine (rofQ 1 (by decide) (by decide)).mono ?_; rintro e w4 ⟨v_5, rfl, h_5, hupx⟩; obtain ⟨s_5, A_5, n_5, c_5, rfl⟩ := h_5.agg; replace hupA := hupA.trans hupx) | (go_at_call 53; refine (requalQ (k0.up hupA) (h_5.congr hd.symm)).mono ?_; rintro e w6 ⟨rfl, hupx⟩; replace h_5 := h_5.up hupx; replace hupA := hupA.trans hupx))
  clear kk1_0 kk1_1 kk1_2 kk1_3
  replace hupw := hupw.trans hupA
  clear hupA
  go_wp2_with fail
  go_ret2
  exact ⟨rfl, hupw⟩
set_option maxRecDepth 100000 in
set_option maxHeartbeats 4000000 in
theorem rfmt2 {r : Rat} (v0 : Value) (w : World) (f0 : Fz w v0 (nm r) (dn r)) (hd : dn r ≠ 1) (hz1 : ¬ 9223372036854775807 < (bs (itxt (nm r))).size + (⟨#[47]⟩ : ByteArray).size) (hz2 : ¬ 9223372036854775807 < (bs (itxt (nm r)) ++ ⟨#[47]⟩ : ByteArray).size + (bs (itxt (dn r))).size) :
    Calls Tryz.prog 39 #[v0] w (PSE w (bs (itxt (nm r)) ++ ⟨#[47]⟩ ++ bs (itxt (dn r))) 0) := by
  obtain ⟨s0, A0, n0, c0, t0, B0, m0, d0, rfl, h0, k0⟩ := f0
  have hupw : Up w w := Up.refl w
  go_enter Tryz.func39, Tryz.ntmps39
  go_wp2_with fail
  obtain ⟨wa1, hwa1⟩ : ∃ x, x = (w.alloc (.cells #[.bool s0, .slice A0 n0 c0, .bool t0, .slice B0 m0 d0] 29)) := ⟨_, rfl⟩
  have hup : Up w wa1 := by rw [hwa1]; exact ((Up.refl w).alloc _)
  have hzwa1 : w.heap.size ≤ w.heap.size := hupw.size
  replace h0 := h0.up hup
  replace k0 := k0.up hup
  replace hupw := hupw.trans hup
  clear hup
  have hk1 : Bk wa1 (w.heap.size) 29 #[.bool s0, .slice A0 n0 c0, .bool t0, .slice B0 m0 d0] := by
    have := (Bk.new w 29 #[.bool s0, .slice A0 n0 c0, .bool t0, .slice B0 m0 d0])
    rw [hwa1]; simpa using this
  rw [← hwa1]
  clear hwa1
  refine (rvalidRQ (Fz.mk h0 k0)).mono ?_
  rintro e w2 ⟨rfl, hup⟩
  replace hk1 := hk1.up hup
  replace h0 := h0.up hup
  replace k0 := k0.up hup
  replace hupw := hupw.trans hup
  clear hup
  have hk1c0 := hk1.cell (i := 0) rfl
  have hk1c1 := hk1.cell (i := 1) rfl
  have hk1c2 := hk1.cell (i := 2) rfl
  have hk1c3 := hk1.cell (i := 3) rfl
  have hk1l := hk1.lt
  go_wp2_with fail
  clear hk1c0 hk1c1 hk1c2 hk1c3 hk1l
  refine (rformatQ h0).mono ?_
  rintro e w3 ⟨rfl, hup⟩
  replace hk1 := hk1.up hup
  replace k0 := k0.up hup
  replace hupw := hupw.trans hup
  clear hup
  go_wp2_with fail
  have kk1_0 : w3.cell? ⟨w.heap.size, 0, none⟩ = some (.bool s0) := hk1.cell (i := 0) rfl
  have kk1_1 : w3.cell? ⟨w.heap.size, 1, none⟩ = some (.slice A0 n0 c0) := hk1.cell (i := 1) rfl
  have kk1_2 : w3.cell? ⟨w.heap.size, 2, none⟩ = some (.bool t0) := hk1.cell (i := 2) rfl
  have kk1_3 : w3.cell? ⟨w.heap.size, 3, none⟩ = some (.slice B0 m0 d0) := hk1.cell (i := 3) rfl
  have hupA : Up w3 w3.drew := (Up.refl w3).drew
  go_region_held3 (fun w' => w'.cell? ⟨w.heap.size, 0, none⟩ = some (.bool s0) ∧ w'.cell? ⟨w.heap.size, 1, none⟩ = some (.slice A0 n0 c0) ∧ w'.cell? ⟨w.heap.size, 2, none⟩ = some (.bool t0) ∧ w'.cell? ⟨w.heap.size, 3, none⟩ = some (.slice B0 m0 d0))
    (exact ⟨hupA.keep kk1_0, hupA.keep kk1_1, hupA.keep kk1_2, hupA.keep kk1_3⟩)
    (first | (go_at_call 52; refine (rofQ 1 (by decide) (by decide)).mono ?_; rintro e w4 ⟨v_5, rfl, h_5, hupx⟩; obtain ⟨s_5, A_5, n_5, c_5, rfl⟩ := h_5.agg; replace hupA := hupA.trans hupx) | (go_at_call 53; refine (requalN (k0.up hupA) h_5 hd).mono ?_; rintro e w6 ⟨rfl, hupx⟩; replace h_5 := h_5.up hupx; replace hupA := hupA.trans hupx))
  clear kk1_0 kk1_1 kk1_2 kk1_3
  replace hk1 := hk1.up hupA
  replace k0 := k0.up hupA
  replace hupw := hupw.trans hupA
  clear hupA
  have hk1c0 := hk1.cell (i := 0) rfl
  have hk1c1 := hk1.cell (i := 1) rfl
  have hk1c2 := hk1.cell (i := 2) rfl
  have hk1c3 := hk1.cell (i := 3) rfl
  have hk1l := hk1.lt
  go_wp2_with fail
  clear hk1c0 hk1c1 hk1c2 hk1c3 hk1l
  refine (rformatQ k0).mono ?_
  rintro e w7 ⟨rfl, hup⟩
  replace hupw := hupw.trans hup
  clear hup
  go_wp2_with fail
  go_ret2
  exact ⟨rfl, hupw⟩
theorem rtx_sz {w : World} {v : Value} {r : Rat} (h : Rz w v r) : ¬ 9223372036854775807 < (bs (itxt (nm r))).size + (⟨#[47]⟩ : ByteArray).size ∧ ¬ 9223372036854775807 < (bs (itxt (nm r)) ++ ⟨#[47]⟩ : ByteArray).size + (bs (itxt (dn r))).size := by
  obtain ⟨s, A, n, c, t, B, m, d, rfl, h1, h2⟩ := h
  have e1 := itxt_size h1.2
  have e2 := itxt_size h2.2
  rw [ByteArray.size_append, size_47]
  omega
theorem fmtNQ {w : World} {v : Value} (h : Nz w v) : Calls Tryz.prog 29 #[v] w (PSE w ⟨#[]⟩ 1) := fmtN v w h
theorem rfmtNQ {w : World} {v : Value} (h : Nz w v) : Calls Tryz.prog 39 #[v] w (PSE w ⟨#[]⟩ 1) := rfmtN v w h
theorem fmtRQ {w : World} {v : Value} {r : Rat} (h : Rz w v r) (hp : Pow w) : Calls Tryz.prog 29 #[v] w (PSE w (rtx (nm r) (dn r)) 0) := by
  have hs := rtx_sz h
  unfold rtx
  by_cases hd : dn r = 1
  · rw [if_pos hd]; exact fmt1 v w h hp hd
  · rw [if_neg hd]; exact fmt2 v w h hp hd hs.1 hs.2
theorem rfmtRQ {w : World} {v : Value} {r : Rat} (h : Rz w v r) : Calls Tryz.prog 39 #[v] w (PSE w (rtx (nm r) (dn r)) 0) := by
  have hs := rtx_sz h
  unfold rtx
  by_cases hd : dn r = 1
  · rw [if_pos hd]; exact rfmt1 v w h hd
  · rw [if_neg hd]; exact rfmt2 v w h hd hs.1 hs.2

end Go.Proofs.YtldifgfpecicnaaGreatDoor
