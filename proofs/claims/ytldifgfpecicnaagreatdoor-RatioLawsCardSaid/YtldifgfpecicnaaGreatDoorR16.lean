/- The fractions of the laws: small ones, and what awake asks. -/
import Derived.Test.YtldifgfpecicnaaGreatDoorR6
import Derived.Test.YtldifgfpecicnaaGreatDoorR12
import Derived.Deep.RegionHeld3
namespace Go.Proofs.YtldifgfpecicnaaGreatDoor
open Go.RowKit

theorem ofC {w : World} (x y : Int) {p q : Int} (h0l : -9223372036854775808 ≤ x) (h0u : x ≤ 9223372036854775807) (h1l : -9223372036854775808 ≤ y) (h1u : y ≤ 9223372036854775807) (hR : makeR x y = ⟨0, p, q⟩) : Calls Tryz.prog 16 #[.int .i64 x, .int .i64 y] w (PFE w p q 0) := by
  have h := ofRQ x y w h0l h0u h1l h1u
  rw [hR] at h; exact h
theorem rofC {w : World} (x y : Int) {p q : Int} (h0l : -9223372036854775808 ≤ x) (h0u : x ≤ 9223372036854775807) (h1l : -9223372036854775808 ≤ y) (h1u : y ≤ 9223372036854775807) (hR : makeR x y = ⟨0, p, q⟩) : Calls Tryz.prog 17 #[.int .i64 x, .int .i64 y] w (PFE w p q 0) := by
  have h := rofRQ x y w h0l h0u h1l h1u
  rw [hR] at h; exact h
set_option maxRecDepth 100000 in
set_option maxHeartbeats 4000000 in
theorem lofC_ (x y p q : Int) (w : World)  (h0l : -9223372036854775808 ≤ x) (h0u : x ≤ 9223372036854775807) (h1l : -9223372036854775808 ≤ y) (h1u : y ≤ 9223372036854775807) (hR : makeR x y = ⟨0, p, q⟩) :
    Calls Tryz.prog 43 #[.int .i64 x, .int .i64 y] w (PF w p q) := by
  have hupw : Up w w := Up.refl w
  go_enter Tryz.func43, Tryz.ntmps43
  go_wp2_with fail
  obtain ⟨wa1, hwa1⟩ : ∃ x, x = (w.alloc (.cells #[.bool false, .slice none 0 0, .bool false, .slice none 0 0] 29)) := ⟨_, rfl⟩
  have hup : Up w wa1 := by rw [hwa1]; exact ((Up.refl w).alloc _)
  have hzwa1 : w.heap.size ≤ w.heap.size := hupw.size
  replace hupw := hupw.trans hup
  clear hup
  have hk4 : Bk wa1 (w.heap.size) 29 #[.bool false, .slice none 0 0, .bool false, .slice none 0 0] := by
    have := (Bk.new w 29 #[.bool false, .slice none 0 0, .bool false, .slice none 0 0])
    rw [hwa1]; simpa using this
  rw [← hwa1]
  clear hwa1
  refine (rofC x y h0l h0u h1l h1u hR).mono ?_
  rintro e w2 ⟨vf, rfl, hf, hup⟩
  replace hk4 := hk4.up hup
  replace hupw := hupw.trans hup
  clear hup
  obtain ⟨s_3, A_3, n_3, c_3, s_4, A_4, n_4, c_4, rfl, h_3, h_4⟩ := hf
  have hk4c0 := hk4.cell (i := 0) rfl
  have hk4c1 := hk4.cell (i := 1) rfl
  have hk4c2 := hk4.cell (i := 2) rfl
  have hk4c3 := hk4.cell (i := 3) rfl
  have hk4l := hk4.lt
  have hk4f0 := hk4.frozen 0
  have hk4f1 := hk4.frozen 1
  have hk4f2 := hk4.frozen 2
  have hk4f3 := hk4.frozen 3
  go_wp2_with fail
  clear hk4c0 hk4c1 hk4c2 hk4c3 hk4l hk4f0 hk4f1 hk4f2 hk4f3
  obtain ⟨ws5, hws5⟩ : ∃ x, x = (st4 w2 w.heap.size (.bool s_3) (.slice A_3 n_3 c_3) (.bool s_4) (.slice A_4 n_4 c_4)) := ⟨_, rfl⟩
  have h_3' := h_3.st4 hk4 (noU4 _ _ _ _ _ _ _ _) (.bool s_3) (.slice A_3 n_3 c_3) (.bool s_4) (.slice A_4 n_4 c_4)
  have h_4' := h_4.st4 hk4 (noU4 _ _ _ _ _ _ _ _) (.bool s_3) (.slice A_3 n_3 c_3) (.bool s_4) (.slice A_4 n_4 c_4)
  rw [← hws5] at h_3'
  clear h_3
  have h_3 := h_3'
  clear h_3'
  rw [← hws5] at h_4'
  clear h_4
  have h_4 := h_4'
  clear h_4'
  replace hupw := hupw.st4 (g := w.heap.size) (by omega) (.bool s_3) (.slice A_3 n_3 c_3) (.bool s_4) (.slice A_4 n_4 c_4)
  rw [← hws5] at hupw
  replace hk4 := hk4.four (.bool s_3) (.slice A_3 n_3 c_3) (.bool s_4) (.slice A_4 n_4 c_4)
  rw [← hws5] at hk4
  have hszws5 : ws5.heap.size = w2.heap.size := by rw [hws5]; simp [st4]
  unfold st4 at hws5
  rw [← hws5]
  clear hws5
  obtain ⟨wa6, hwa6⟩ : ∃ x, x = (ws5.alloc (.cells #[.bool s_3, .slice A_3 n_3 c_3, .bool s_4, .slice A_4 n_4 c_4] 29)) := ⟨_, rfl⟩
  have hup : Up ws5 wa6 := by rw [hwa6]; exact ((Up.refl ws5).alloc _)
  have howa6 : w.heap.size < w2.heap.size := by have := hk4.lt; omega
  have hzwa6 : w.heap.size ≤ w2.heap.size := by have := hupw.size; omega
  replace hk4 := hk4.up hup
  replace h_3 := h_3.up hup
  replace h_4 := h_4.up hup
  replace hupw := hupw.trans hup
  clear hup
  have hk5 : Bk wa6 (w2.heap.size) 29 #[.bool s_3, .slice A_3 n_3 c_3, .bool s_4, .slice A_4 n_4 c_4] := by
    have := (Bk.new ws5 29 #[.bool s_3, .slice A_3 n_3 c_3, .bool s_4, .slice A_4 n_4 c_4])
    rw [hwa6]; simpa [hszws5] using this
  rw [← hwa6]
  clear hwa6
  clear hszws5
  have hk4c0 := hk4.cell (i := 0) rfl
  have hk4c1 := hk4.cell (i := 1) rfl
  have hk4c2 := hk4.cell (i := 2) rfl
  have hk4c3 := hk4.cell (i := 3) rfl
  exact bodyPost_ret (v := .agg #[.bool s_3, .slice A_3 n_3 c_3, .bool s_4, .slice A_4 n_4 c_4]) (by simp [results, Tryz.results43, go_sem, hk4c0, hk4c1, hk4c2, hk4c3]) rfl ⟨_, rfl, Fz.mk h_3 h_4, hupw⟩
set_option maxRecDepth 100000 in
set_option maxHeartbeats 4000000 in
theorem small_ (a b p q : Int) (w : World)  (ha : -32768 ≤ a) (ha2 : a ≤ 32767) (hb : 0 ≤ b) (hb2 : b ≤ 255) (hR : makeR a (b + 1) = ⟨0, p, q⟩) :
    Calls Tryz.prog 36 #[.int .i16 a, .int .u8 b] w (PF w p q) := by
  have hupw : Up w w := Up.refl w
  go_enter Tryz.func36, Tryz.ntmps36
  go_wp2_with fail
  obtain ⟨wa1, hwa1⟩ : ∃ x, x = (w.alloc (.cells #[.bool false, .slice none 0 0, .bool false, .slice none 0 0] 29)) := ⟨_, rfl⟩
  have hup : Up w wa1 := by rw [hwa1]; exact ((Up.refl w).alloc _)
  have hzwa1 : w.heap.size ≤ w.heap.size := hupw.size
  replace hupw := hupw.trans hup
  clear hup
  have hk4 : Bk wa1 (w.heap.size) 29 #[.bool false, .slice none 0 0, .bool false, .slice none 0 0] := by
    have := (Bk.new w 29 #[.bool false, .slice none 0 0, .bool false, .slice none 0 0])
    rw [hwa1]; simpa using this
  rw [← hwa1]
  clear hwa1
  refine (rofC a (b + 1) (by omega) (by omega) (by omega) (by omega) hR).mono ?_
  rintro e w2 ⟨vf, rfl, hf, hup⟩
  replace hk4 := hk4.up hup
  replace hupw := hupw.trans hup
  clear hup
  obtain ⟨s_3, A_3, n_3, c_3, s_4, A_4, n_4, c_4, rfl, h_3, h_4⟩ := hf
  have hk4c0 := hk4.cell (i := 0) rfl
  have hk4c1 := hk4.cell (i := 1) rfl
  have hk4c2 := hk4.cell (i := 2) rfl
  have hk4c3 := hk4.cell (i := 3) rfl
  have hk4l := hk4.lt
  have hk4f0 := hk4.frozen 0
  have hk4f1 := hk4.frozen 1
  have hk4f2 := hk4.frozen 2
  have hk4f3 := hk4.frozen 3
  go_wp2_with fail
  clear hk4c0 hk4c1 hk4c2 hk4c3 hk4l hk4f0 hk4f1 hk4f2 hk4f3
  obtain ⟨ws5, hws5⟩ : ∃ x, x = (st4 w2 w.heap.size (.bool s_3) (.slice A_3 n_3 c_3) (.bool s_4) (.slice A_4 n_4 c_4)) := ⟨_, rfl⟩
  have h_3' := h_3.st4 hk4 (noU4 _ _ _ _ _ _ _ _) (.bool s_3) (.slice A_3 n_3 c_3) (.bool s_4) (.slice A_4 n_4 c_4)
  have h_4' := h_4.st4 hk4 (noU4 _ _ _ _ _ _ _ _) (.bool s_3) (.slice A_3 n_3 c_3) (.bool s_4) (.slice A_4 n_4 c_4)
  rw [← hws5] at h_3'
  clear h_3
  have h_3 := h_3'
  clear h_3'
  rw [← hws5] at h_4'
  clear h_4
  have h_4 := h_4'
  clear h_4'
  replace hupw := hupw.st4 (g := w.heap.size) (by omega) (.bool s_3) (.slice A_3 n_3 c_3) (.bool s_4) (.slice A_4 n_4 c_4)
  rw [← hws5] at hupw
  replace hk4 := hk4.four (.bool s_3) (.slice A_3 n_3 c_3) (.bool s_4) (.slice A_4 n_4 c_4)
  rw [← hws5] at hk4
  have hszws5 : ws5.heap.size = w2.heap.size := by rw [hws5]; simp [st4]
  unfold st4 at hws5
  rw [← hws5]
  clear hws5
  obtain ⟨wa6, hwa6⟩ : ∃ x, x = (ws5.alloc (.cells #[.bool s_3, .slice A_3 n_3 c_3, .bool s_4, .slice A_4 n_4 c_4] 29)) := ⟨_, rfl⟩
  have hup : Up ws5 wa6 := by rw [hwa6]; exact ((Up.refl ws5).alloc _)
  have howa6 : w.heap.size < w2.heap.size := by have := hk4.lt; omega
  have hzwa6 : w.heap.size ≤ w2.heap.size := by have := hupw.size; omega
  replace hk4 := hk4.up hup
  replace h_3 := h_3.up hup
  replace h_4 := h_4.up hup
  replace hupw := hupw.trans hup
  clear hup
  have hk5 : Bk wa6 (w2.heap.size) 29 #[.bool s_3, .slice A_3 n_3 c_3, .bool s_4, .slice A_4 n_4 c_4] := by
    have := (Bk.new ws5 29 #[.bool s_3, .slice A_3 n_3 c_3, .bool s_4, .slice A_4 n_4 c_4])
    rw [hwa6]; simpa [hszws5] using this
  rw [← hwa6]
  clear hwa6
  clear hszws5
  have hk4c0 := hk4.cell (i := 0) rfl
  have hk4c1 := hk4.cell (i := 1) rfl
  have hk4c2 := hk4.cell (i := 2) rfl
  have hk4c3 := hk4.cell (i := 3) rfl
  exact bodyPost_ret (v := .agg #[.bool s_3, .slice A_3 n_3 c_3, .bool s_4, .slice A_4 n_4 c_4]) (by simp [results, Tryz.results36, go_sem, hk4c0, hk4c1, hk4c2, hk4c3]) rfl ⟨_, rfl, Fz.mk h_3 h_4, hupw⟩
theorem lofC {w : World} (x y : Int) {p q : Int} (h0l : -9223372036854775808 ≤ x) (h0u : x ≤ 9223372036854775807) (h1l : -9223372036854775808 ≤ y) (h1u : y ≤ 9223372036854775807) (hR : makeR x y = ⟨0, p, q⟩) : Calls Tryz.prog 43 #[.int .i64 x, .int .i64 y] w (PF w p q) := lofC_ x y p q w h0l h0u h1l h1u hR
theorem addC {w : World} {v v' : Value} {p q p' q' x y : Int} (h : Fz w v p q) (h' : Fz w v' p' q') (hl : lowB p q = true) (hl' : lowB p' q' = true) (hR : addR (fr p q) (fr p' q') = ⟨0, x, y⟩) : Calls Tryz.prog 24 #[v, v'] w (PFE w x y 0) := by
  obtain ⟨e1, e2⟩ := low_of hl
  obtain ⟨e3, e4⟩ := low_of hl'
  have hc := addRQ v v' w (h.congr e1.symm e2.symm) (h'.congr e3.symm e4.symm)
  rw [hR] at hc; exact hc
theorem decC {w : World} {v : Value} {p q : Int} {T : ByteArray} (d : Nat) (h : Fz w v p q) (hp : Pow w) (hd : d ≤ 20) (hl : lowB p q = true) (hT : decS (fr p q) d = T) (hk : decK (fr p q) d = 0) : Calls Tryz.prog 30 #[v, .int .i64 (d : Int)] w (PSE w T 0) := by
  obtain ⟨e1, e2⟩ := low_of hl
  have hc := decRQ (r := fr p q) (h.congr e1.symm e2.symm) hp d hd
  rw [hT, hk] at hc; exact hc
theorem parC {w : World} (s : ByteArray) (hs : s.size ≤ 999) (hp : Pow w) (hR : parsR s = noR 2) : Calls Tryz.prog 40 #[.string s] w (PFE w 0 0 2) := by
  have hc := parseRQ s hs hp
  rw [hR] at hc; exact hc
theorem res_eq {R : Res} {e p q : Int} (h : (decide (R.e = e) && (decide (R.p = p) && decide (R.q = q))) = true) : R = ⟨e, p, q⟩ := by
  simp only [Bool.and_eq_true, decide_eq_true_eq] at h
  obtain ⟨rfl, rfl, rfl⟩ := h
  rfl
theorem k1 : makeR 6 (-4) = ⟨0, -3, 2⟩ := res_eq (by decide +kernel)
theorem k2 : makeR 1 2 = ⟨0, 1, 2⟩ := res_eq (by decide +kernel)
theorem k3 : makeR 1 3 = ⟨0, 1, 3⟩ := res_eq (by decide +kernel)
theorem k4 : makeR (-2) 3 = ⟨0, -2, 3⟩ := res_eq (by decide +kernel)
theorem k5 : makeR (-1) 1000 = ⟨0, -1, 1000⟩ := res_eq (by decide +kernel)
theorem k6 : makeR (-3) 2 = ⟨0, -3, 2⟩ := res_eq (by decide +kernel)
theorem k7 : makeR 5 6 = ⟨0, 5, 6⟩ := res_eq (by decide +kernel)
theorem k8 : addR (fr 1 2) (fr 1 3) = ⟨0, 5, 6⟩ := res_eq (by decide +kernel)
theorem k9 : parsR ⟨#[50, 47, 52]⟩ = noR 2 := res_eq (by decide +kernel)
theorem k10 : rtx (-3) 2 = ⟨#[45, 51, 47, 50]⟩ := by decide +kernel
theorem k11 : decS (fr (-2) 3) 3 = ⟨#[45, 48, 46, 54, 54, 54]⟩ ∧ decK (fr (-2) 3) 3 = 0 := by decide +kernel
theorem k12 : decS (fr (-1) 1000) 2 = ⟨#[48, 46, 48, 48]⟩ ∧ decK (fr (-1) 1000) 2 = 0 := by decide +kernel
set_option maxRecDepth 100000 in
set_option maxHeartbeats 4000000 in
theorem awake_0 (w : World)  (hp : Pow w) :
    Calls Tryz.prog 12 #[] w (PB w true) := by
  have hupw : Up w w := Up.refl w
  go_enter Tryz.func12, Tryz.ntmps12
  go_wp2_with fail
  refine (ofC 6 (-4) (by decide) (by decide) (by decide) (by decide) k1).mono ?_
  rintro e w1 ⟨vf, rfl, hf, hup⟩
  replace hupw := hupw.trans hup
  clear hup
  obtain ⟨s_2, A_2, n_2, c_2, s_3, A_3, n_3, c_3, rfl, h_2, h_3⟩ := hf
  go_wp2_with fail
  obtain ⟨wa4, hwa4⟩ : ∃ x, x = (w1.alloc (.cells #[.bool s_2, .slice A_2 n_2 c_2, .bool s_3, .slice A_3 n_3 c_3] 29)) := ⟨_, rfl⟩
  have hup : Up w1 wa4 := by rw [hwa4]; exact ((Up.refl w1).alloc _)
  have hzwa4 : w.heap.size ≤ w1.heap.size := hupw.size
  replace h_2 := h_2.up hup
  replace h_3 := h_3.up hup
  replace hupw := hupw.trans hup
  clear hup
  have hk1 : Bk wa4 (w1.heap.size) 29 #[.bool s_2, .slice A_2 n_2 c_2, .bool s_3, .slice A_3 n_3 c_3] := by
    have := (Bk.new w1 29 #[.bool s_2, .slice A_2 n_2 c_2, .bool s_3, .slice A_3 n_3 c_3])
    rw [hwa4]; simpa using this
  rw [← hwa4]
  clear hwa4
  refine (fmtLQ (Fz.mk h_2 h_3) (hp.up hupw) (by decide +kernel) k10).mono ?_
  rintro e w5 ⟨rfl, hup⟩
  replace hk1 := hk1.up hup
  replace h_2 := h_2.up hup
  replace h_3 := h_3.up hup
  replace hupw := hupw.trans hup
  clear hup
  go_wp2_with fail
  refine (lofC (1) (2) (by decide) (by decide) (by decide) (by decide) k2).mono ?_
  rintro e w6 ⟨vf, rfl, hf, hup⟩
  replace hk1 := hk1.up hup
  replace h_2 := h_2.up hup
  replace h_3 := h_3.up hup
  replace hupw := hupw.trans hup
  clear hup
  obtain ⟨s_7, A_7, n_7, c_7, s_8, A_8, n_8, c_8, rfl, h_7, h_8⟩ := hf
  go_wp2_with fail
  refine (lofC (1) (3) (by decide) (by decide) (by decide) (by decide) k3).mono ?_
  rintro e w9 ⟨vf, rfl, hf, hup⟩
  replace hk1 := hk1.up hup
  replace h_2 := h_2.up hup
  replace h_3 := h_3.up hup
  replace h_7 := h_7.up hup
  replace h_8 := h_8.up hup
  replace hupw := hupw.trans hup
  clear hup
  obtain ⟨s_10, A_10, n_10, c_10, s_11, A_11, n_11, c_11, rfl, h_10, h_11⟩ := hf
  go_wp2_with fail
  refine (addC (Fz.mk h_7 h_8) (Fz.mk h_10 h_11) (by decide +kernel) (by decide +kernel) k8).mono ?_
  rintro e w12 ⟨vf, rfl, hf, hup⟩
  replace hk1 := hk1.up hup
  replace h_2 := h_2.up hup
  replace h_3 := h_3.up hup
  replace hupw := hupw.trans hup
  clear hup
  obtain ⟨s_13, A_13, n_13, c_13, s_14, A_14, n_14, c_14, rfl, h_13, h_14⟩ := hf
  go_wp2_with fail
  obtain ⟨wa15, hwa15⟩ : ∃ x, x = (w12.alloc (.cells #[.bool s_13, .slice A_13 n_13 c_13, .bool s_14, .slice A_14 n_14 c_14] 29)) := ⟨_, rfl⟩
  have hup : Up w12 wa15 := by rw [hwa15]; exact ((Up.refl w12).alloc _)
  have howa15 : w1.heap.size < w12.heap.size := hk1.lt
  have hzwa15 : w.heap.size ≤ w12.heap.size := hupw.size
  replace hk1 := hk1.up hup
  replace h_2 := h_2.up hup
  replace h_3 := h_3.up hup
  replace h_13 := h_13.up hup
  replace h_14 := h_14.up hup
  replace hupw := hupw.trans hup
  clear hup
  have hk5 : Bk wa15 (w12.heap.size) 29 #[.bool s_13, .slice A_13 n_13 c_13, .bool s_14, .slice A_14 n_14 c_14] := by
    have := (Bk.new w12 29 #[.bool s_13, .slice A_13 n_13 c_13, .bool s_14, .slice A_14 n_14 c_14])
    rw [hwa15]; simpa using this
  rw [← hwa15]
  clear hwa15
  refine (lofC (-2) (3) (by decide) (by decide) (by decide) (by decide) k4).mono ?_
  rintro e w16 ⟨vf, rfl, hf, hup⟩
  replace hk1 := hk1.up hup
  replace hk5 := hk5.up hup
  replace h_2 := h_2.up hup
  replace h_3 := h_3.up hup
  replace h_13 := h_13.up hup
  replace h_14 := h_14.up hup
  replace hupw := hupw.trans hup
  clear hup
  obtain ⟨s_17, A_17, n_17, c_17, s_18, A_18, n_18, c_18, rfl, h_17, h_18⟩ := hf
  go_wp2_with fail
  refine (decC 3 (Fz.mk h_17 h_18) (hp.up hupw) (by decide) (by decide +kernel) k11.1 k11.2).mono ?_
  rintro e w19 ⟨rfl, hup⟩
  replace hk1 := hk1.up hup
  replace hk5 := hk5.up hup
  replace h_2 := h_2.up hup
  replace h_3 := h_3.up hup
  replace h_13 := h_13.up hup
  replace h_14 := h_14.up hup
  replace hupw := hupw.trans hup
  clear hup
  go_wp2_with fail
  refine (lofC (-1) (1000) (by decide) (by decide) (by decide) (by decide) k5).mono ?_
  rintro e w20 ⟨vf, rfl, hf, hup⟩
  replace hk1 := hk1.up hup
  replace hk5 := hk5.up hup
  replace h_2 := h_2.up hup
  replace h_3 := h_3.up hup
  replace h_13 := h_13.up hup
  replace h_14 := h_14.up hup
  replace hupw := hupw.trans hup
  clear hup
  obtain ⟨s_21, A_21, n_21, c_21, s_22, A_22, n_22, c_22, rfl, h_21, h_22⟩ := hf
  go_wp2_with fail
  refine (decC 2 (Fz.mk h_21 h_22) (hp.up hupw) (by decide) (by decide +kernel) k12.1 k12.2).mono ?_
  rintro e w23 ⟨rfl, hup⟩
  replace hk1 := hk1.up hup
  replace hk5 := hk5.up hup
  replace h_2 := h_2.up hup
  replace h_3 := h_3.up hup
  replace h_13 := h_13.up hup
  replace h_14 := h_14.up hup
  replace hupw := hupw.trans hup
  clear hup
  go_wp2_with fail
  refine (parC ⟨#[50, 47, 52]⟩ (by decide) (hp.up hupw) k9).mono ?_
  rintro e w24 ⟨vf, rfl, hf, hup⟩
  replace hk1 := hk1.up hup
  replace hk5 := hk5.up hup
  replace h_2 := h_2.up hup
  replace h_3 := h_3.up hup
  replace h_13 := h_13.up hup
  replace h_14 := h_14.up hup
  replace hupw := hupw.trans hup
  clear hup
  obtain ⟨s_25, A_25, n_25, c_25, s_26, A_26, n_26, c_26, rfl, h_25, h_26⟩ := hf
  go_wp2_with fail
  obtain ⟨wa27, hwa27⟩ : ∃ x, x = (w24.alloc (.cells #[.bool s_25, .slice A_25 n_25 c_25, .bool s_26, .slice A_26 n_26 c_26] 29)) := ⟨_, rfl⟩
  have hup : Up w24 wa27 := by rw [hwa27]; exact ((Up.refl w24).alloc _)
  have howa27 : w12.heap.size < w24.heap.size := hk5.lt
  have hzwa27 : w.heap.size ≤ w24.heap.size := hupw.size
  replace hk1 := hk1.up hup
  replace hk5 := hk5.up hup
  replace h_2 := h_2.up hup
  replace h_3 := h_3.up hup
  replace h_13 := h_13.up hup
  replace h_14 := h_14.up hup
  replace hupw := hupw.trans hup
  clear hup
  have hk11 : Bk wa27 (w24.heap.size) 29 #[.bool s_25, .slice A_25 n_25 c_25, .bool s_26, .slice A_26 n_26 c_26] := by
    have := (Bk.new w24 29 #[.bool s_25, .slice A_25 n_25 c_25, .bool s_26, .slice A_26 n_26 c_26])
    rw [hwa27]; simpa using this
  rw [← hwa27]
  clear hwa27
  have kk1_0 : wa27.cell? ⟨w1.heap.size, 0, none⟩ = some (.bool s_2) := hk1.cell (i := 0) rfl
  have kk1_1 : wa27.cell? ⟨w1.heap.size, 1, none⟩ = some (.slice A_2 n_2 c_2) := hk1.cell (i := 1) rfl
  have kk1_2 : wa27.cell? ⟨w1.heap.size, 2, none⟩ = some (.bool s_3) := hk1.cell (i := 2) rfl
  have kk1_3 : wa27.cell? ⟨w1.heap.size, 3, none⟩ = some (.slice A_3 n_3 c_3) := hk1.cell (i := 3) rfl
  have kk5_0 : wa27.cell? ⟨w12.heap.size, 0, none⟩ = some (.bool s_13) := hk5.cell (i := 0) rfl
  have kk5_1 : wa27.cell? ⟨w12.heap.size, 1, none⟩ = some (.slice A_13 n_13 c_13) := hk5.cell (i := 1) rfl
  have kk5_2 : wa27.cell? ⟨w12.heap.size, 2, none⟩ = some (.bool s_14) := hk5.cell (i := 2) rfl
  have kk5_3 : wa27.cell? ⟨w12.heap.size, 3, none⟩ = some (.slice A_14 n_14 c_14) := hk5.cell (i := 3) rfl
  have hupA : Up wa27 wa27.drew := (Up.refl wa27).drew
  go_region_held3 (fun w' => w'.cell? ⟨w1.heap.size, 0, none⟩ = some (.bool s_2) ∧ w'.cell? ⟨w1.heap.size, 1, none⟩ = some (.slice A_2 n_2 c_2) ∧ w'.cell? ⟨w1.heap.size, 2, none⟩ = some (.bool s_3) ∧ w'.cell? ⟨w1.heap.size, 3, none⟩ = some (.slice A_3 n_3 c_3) ∧ w'.cell? ⟨w12.heap.size, 0, none⟩ = some (.bool s_13) ∧ w'.cell? ⟨w12.heap.size, 1, none⟩ = some (.slice A_13 n_13 c_13) ∧ w'.cell? ⟨w12.heap.size, 2, none⟩ = some (.bool s_14) ∧ w'.cell? ⟨w12.heap.size, 3, none⟩ = some (.slice A_14 n_14 c_14))
    (exact ⟨hupA.keep kk1_0, hupA.keep kk1_1, hupA.keep kk1_2, hupA.keep kk1_3, hupA.keep kk5_0, hupA.keep kk5_1, hupA.keep kk5_2, hupA.keep kk5_3⟩)
    (first | (go_at_call 43; refine (lofC _ _ (by decide) (by decide) (by decide) (by decide) (by first | exact k6 | exact k7)).mono ?_; rintro e w28 ⟨vf, rfl, hf, hupx⟩; obtain ⟨s_29, A_29, n_29, c_29, s_30, A_30, n_30, c_30, rfl, h_29, h_30⟩ := hf; replace hupA := hupA.trans hupx) | (go_at_call_of 18 A_2; refine (requalF _ _ _ (Fz.mk (h_2.up hupA) (h_3.up hupA)) (Fz.mk h_29 h_30)).mono ?_; rintro e w31 ⟨rfl, hupx⟩; replace h_29 := h_29.up hupx; replace h_30 := h_30.up hupx; replace hupA := hupA.trans hupx) | (go_at_call_of 18 A_13; refine (requalF _ _ _ (Fz.mk (h_13.up hupA) (h_14.up hupA)) (Fz.mk h_29 h_30)).mono ?_; rintro e w35 ⟨rfl, hupx⟩; replace h_29 := h_29.up hupx; replace h_30 := h_30.up hupx; replace hupA := hupA.trans hupx))
  clear kk1_0 kk1_1 kk1_2 kk1_3 kk5_0 kk5_1 kk5_2 kk5_3
  replace hupw := hupw.trans hupA
  clear hupA
  go_wp2_with fail
  go_ret
  exact ⟨rfl, hupw⟩
theorem awakeQ {w : World} (hp : Pow w) : Calls Tryz.prog 12 #[] w (PB w true) := awake_0 w hp

end Go.Proofs.YtldifgfpecicnaaGreatDoor
