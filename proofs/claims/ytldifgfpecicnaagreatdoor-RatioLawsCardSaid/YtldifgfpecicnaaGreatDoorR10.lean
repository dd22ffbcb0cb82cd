/- Parse of the program. -/
import Derived.Test.YtldifgfpecicnaaGreatDoorRCut
namespace Go.Proofs.YtldifgfpecicnaaGreatDoor
open Go.RowKit

theorem ne_list {a b : ByteArray} (h : ¬ a = b) : (a.toList == b.toList) = false := by
  rw [beq_eq_false_iff_ne]
  intro e
  apply h
  rw [ByteArray.toList_eq, ByteArray.toList_eq] at e
  exact ByteArray.ext (Array.toList_inj.1 e)
set_option maxRecDepth 100000 in
set_option maxHeartbeats 4000000 in
theorem parst_1 (s L R : ByteArray) (w : World)  (hc : ∀ W, Calls Tryz.prog 78 #[.string s, .string ⟨#[47]⟩] W (PCut W L R true)) (hl : L.size ≤ 1000) (_hr : R.size ≤ 1000) (hb : okS L = false) :
    Calls Tryz.prog 40 #[.string s] w (PFE w 0 0 2) := by
  have hupw : Up w w := Up.refl w
  go_enter Tryz.func40, Tryz.ntmps40
  go_wp2_with fail
  obtain ⟨wa1, hwa1⟩ : ∃ x, x = (w.alloc (.cells #[.bool false, .slice none 0 0, .bool false, .slice none 0 0] 29)) := ⟨_, rfl⟩
  have hup : Up w wa1 := by rw [hwa1]; exact ((Up.refl w).alloc _)
  have hzwa1 : w.heap.size ≤ w.heap.size := hupw.size
  replace hupw := hupw.trans hup
  clear hup
  have hk2 : Bk wa1 (w.heap.size) 29 #[.bool false, .slice none 0 0, .bool false, .slice none 0 0] := by
    have := (Bk.new w 29 #[.bool false, .slice none 0 0, .bool false, .slice none 0 0])
    rw [hwa1]; simpa using this
  rw [← hwa1]
  clear hwa1
  refine (hc _).mono ?_
  rintro e w2 ⟨rfl, hup⟩
  replace hk2 := hk2.up hup
  replace hupw := hupw.trans hup
  clear hup
  go_wp2_with fail
  refine (parsN hl hb).mono ?_
  rintro e w3 ⟨v_4, rfl, h_4, hup⟩
  replace hk2 := hk2.up hup
  replace hupw := hupw.trans hup
  clear hup
  obtain ⟨s_4, A_4, n_4, c_4, rfl⟩ := h_4.agg
  have hk2c0 := hk2.cell (i := 0) rfl
  have hk2c1 := hk2.cell (i := 1) rfl
  have hk2c2 := hk2.cell (i := 2) rfl
  have hk2c3 := hk2.cell (i := 3) rfl
  have hk2l := hk2.lt
  have hk2f0 := hk2.frozen 0
  have hk2f1 := hk2.frozen 1
  have hk2f2 := hk2.frozen 2
  have hk2f3 := hk2.frozen 3
  go_wp2_with fail
  clear hk2c0 hk2c1 hk2c2 hk2c3 hk2l hk2f0 hk2f1 hk2f2 hk2f3
  obtain ⟨ws5, hws5⟩ : ∃ x, x = (st4 w3 w.heap.size (.bool false) (.slice none 0 0) (.bool false) (.slice none 0 0)) := ⟨_, rfl⟩
  replace hupw := hupw.st4 (g := w.heap.size) (by omega) (.bool false) (.slice none 0 0) (.bool false) (.slice none 0 0)
  rw [← hws5] at hupw
  replace hk2 := hk2.four (.bool false) (.slice none 0 0) (.bool false) (.slice none 0 0)
  rw [← hws5] at hk2
  have hszws5 : ws5.heap.size = w3.heap.size := by rw [hws5]; simp [st4]
  unfold st4 at hws5
  rw [← hws5]
  clear hws5
  obtain ⟨wa6, hwa6⟩ : ∃ x, x = (ws5.alloc (.cells #[.bool s_4, .slice A_4 n_4 c_4] 24)) := ⟨_, rfl⟩
  have hup : Up ws5 wa6 := by rw [hwa6]; exact ((Up.refl ws5).alloc _)
  have howa6 : w.heap.size < w3.heap.size := by have := hk2.lt; omega
  have hzwa6 : w.heap.size ≤ w3.heap.size := by have := hupw.size; omega
  replace hk2 := hk2.up hup
  replace hupw := hupw.trans hup
  clear hup
  have hk7 : Bk wa6 (w3.heap.size) 24 #[.bool s_4, .slice A_4 n_4 c_4] := by
    have := (Bk.new ws5 24 #[.bool s_4, .slice A_4 n_4 c_4])
    rw [hwa6]; simpa [hszws5] using this
  rw [← hwa6]
  clear hwa6
  clear hszws5
  have hk2c0 := hk2.cell (i := 0) rfl
  have hk2c1 := hk2.cell (i := 1) rfl
  have hk2c2 := hk2.cell (i := 2) rfl
  have hk2c3 := hk2.cell (i := 3) rfl
  exact bodyPost_ret (v := .tuple #[.agg #[.bool false, .slice none 0 0, .bool false, .slice none 0 0], .int .i64 2]) (by simp [results, Tryz.results40, go_sem, hk2c0, hk2c1, hk2c2, hk2c3]) rfl ⟨_, rfl, Fz.mk (Iz.zero _) (Iz.zero _), hupw⟩
set_option maxRecDepth 100000 in
set_option maxHeartbeats 4000000 in
theorem parst_2 (s L R : ByteArray) (w : World)  (hc : ∀ W, Calls Tryz.prog 78 #[.string s, .string ⟨#[47]⟩] W (PCut W L R true)) (hl : L.size ≤ 1000) (hr : R.size ≤ 1000) (hb : okS L = true) (hb2 : okS R = false) :
    Calls Tryz.prog 40 #[.string s] w (PFE w 0 0 2) := by
  have hupw : Up w w := Up.refl w
  go_enter Tryz.func40, Tryz.ntmps40
  go_wp2_with fail
  obtain ⟨wa1, hwa1⟩ : ∃ x, x = (w.alloc (.cells #[.bool false, .slice none 0 0, .bool false, .slice none 0 0] 29)) := ⟨_, rfl⟩
  have hup : Up w wa1 := by rw [hwa1]; exact ((Up.refl w).alloc _)
  have hzwa1 : w.heap.size ≤ w.heap.size := hupw.size
  replace hupw := hupw.trans hup
  clear hup
  have hk2 : Bk wa1 (w.heap.size) 29 #[.bool false, .slice none 0 0, .bool false, .slice none 0 0] := by
    have := (Bk.new w 29 #[.bool false, .slice none 0 0, .bool false, .slice none 0 0])
    rw [hwa1]; simpa using this
  rw [← hwa1]
  clear hwa1
  refine (hc _).mono ?_
  rintro e w2 ⟨rfl, hup⟩
  replace hk2 := hk2.up hup
  replace hupw := hupw.trans hup
  clear hup
  go_wp2_with fail
  refine (parsY hl hb).mono ?_
  rintro e w3 ⟨v_4, rfl, h_4, hup⟩
  replace hk2 := hk2.up hup
  replace hupw := hupw.trans hup
  clear hup
  obtain ⟨s_4, A_4, n_4, c_4, rfl⟩ := h_4.agg
  go_wp2_with fail
  obtain ⟨wa5, hwa5⟩ : ∃ x, x = (w3.alloc (.cells #[.bool s_4, .slice A_4 n_4 c_4] 24)) := ⟨_, rfl⟩
  have hup : Up w3 wa5 := by rw [hwa5]; exact ((Up.refl w3).alloc _)
  have howa5 : w.heap.size < w3.heap.size := hk2.lt
  have hzwa5 : w.heap.size ≤ w3.heap.size := hupw.size
  replace hk2 := hk2.up hup
  replace hupw := hupw.trans hup
  clear hup
  have hk7 : Bk wa5 (w3.heap.size) 24 #[.bool s_4, .slice A_4 n_4 c_4] := by
    have := (Bk.new w3 24 #[.bool s_4, .slice A_4 n_4 c_4])
    rw [hwa5]; simpa using this
  rw [← hwa5]
  clear hwa5
  refine (parsN hr hb2).mono ?_
  rintro e w6 ⟨v_7, rfl, h_7, hup⟩
  replace hk2 := hk2.up hup
  replace hk7 := hk7.up hup
  replace hupw := hupw.trans hup
  clear hup
  obtain ⟨s_7, A_7, n_7, c_7, rfl⟩ := h_7.agg
  have hk2c0 := hk2.cell (i := 0) rfl
  have hk2c1 := hk2.cell (i := 1) rfl
  have hk2c2 := hk2.cell (i := 2) rfl
  have hk2c3 := hk2.cell (i := 3) rfl
  have hk2l := hk2.lt
  have hk2f0 := hk2.frozen 0
  have hk2f1 := hk2.frozen 1
  have hk2f2 := hk2.frozen 2
  have hk2f3 := hk2.frozen 3
  go_wp2_with fail
  clear hk2c0 hk2c1 hk2c2 hk2c3 hk2l hk2f0 hk2f1 hk2f2 hk2f3
  obtain ⟨ws8, hws8⟩ : ∃ x, x = (st4 w6 w.heap.size (.bool false) (.slice none 0 0) (.bool false) (.slice none 0 0)) := ⟨_, rfl⟩
  replace hk7 := hk7.far4 (g' := w.heap.size) (by omega) (.bool false) (.slice none 0 0) (.bool false) (.slice none 0 0)
  rw [← hws8] at hk7
  replace hupw := hupw.st4 (g := w.heap.size) (by omega) (.bool false) (.slice none 0 0) (.bool false) (.slice none 0 0)
  rw [← hws8] at hupw
  replace hk2 := hk2.four (.bool false) (.slice none 0 0) (.bool false) (.slice none 0 0)
  rw [← hws8] at hk2
  have hszws8 : ws8.heap.size = w6.heap.size := by rw [hws8]; simp [st4]
  unfold st4 at hws8
  rw [← hws8]
  clear hws8
  obtain ⟨wa9, hwa9⟩ : ∃ x, x = (ws8.alloc (.cells #[.bool s_7, .slice A_7 n_7 c_7] 24)) := ⟨_, rfl⟩
  have hup : Up ws8 wa9 := by rw [hwa9]; exact ((Up.refl ws8).alloc _)
  have howa9 : w3.heap.size < w6.heap.size := by have := hk7.lt; omega
  have hzwa9 : w.heap.size ≤ w6.heap.size := by have := hupw.size; omega
  replace hk2 := hk2.up hup
  replace hupw := hupw.trans hup
  clear hup
  have hk9 : Bk wa9 (w6.heap.size) 24 #[.bool s_7, .slice A_7 n_7 c_7] := by
    have := (Bk.new ws8 24 #[.bool s_7, .slice A_7 n_7 c_7])
    rw [hwa9]; simpa [hszws8] using this
  rw [← hwa9]
  clear hwa9
  clear hszws8
  have hk2c0 := hk2.cell (i := 0) rfl
  have hk2c1 := hk2.cell (i := 1) rfl
  have hk2c2 := hk2.cell (i := 2) rfl
  have hk2c3 := hk2.cell (i := 3) rfl
  exact bodyPost_ret (v := .tuple #[.agg #[.bool false, .slice none 0 0, .bool false, .slice none 0 0], .int .i64 2]) (by simp [results, Tryz.results40, go_sem, hk2c0, hk2c1, hk2c2, hk2c3]) rfl ⟨_, rfl, Fz.mk (Iz.zero _) (Iz.zero _), hupw⟩
set_option maxRecDepth 100000 in
set_option maxHeartbeats 4000000 in
theorem parst_3 (s L R : ByteArray) (w : World)  (hc : ∀ W, Calls Tryz.prog 78 #[.string s, .string ⟨#[47]⟩] W (PCut W L R true)) (hl : L.size ≤ 1000) (hr : R.size ≤ 1000) (hb : okS L = true) (hb2 : okS R = true) (hq : lowB (valS L) (valS R) = false) :
    Calls Tryz.prog 40 #[.string s] w (PFE w 0 0 2) := by
  have hupw : Up w w := Up.refl w
  go_enter Tryz.func40, Tryz.ntmps40
  go_wp2_with fail
  obtain ⟨wa1, hwa1⟩ : ∃ x, x = (w.alloc (.cells #[.bool false, .slice none 0 0, .bool false, .slice none 0 0] 29)) := ⟨_, rfl⟩
  have hup : Up w wa1 := by rw [hwa1]; exact ((Up.refl w).alloc _)
  have hzwa1 : w.heap.size ≤ w.heap.size := hupw.size
  replace hupw := hupw.trans hup
  clear hup
  have hk2 : Bk wa1 (w.heap.size) 29 #[.bool false, .slice none 0 0, .bool false, .slice none 0 0] := by
    have := (Bk.new w 29 #[.bool false, .slice none 0 0, .bool false, .slice none 0 0])
    rw [hwa1]; simpa using this
  rw [← hwa1]
  clear hwa1
  refine (hc _).mono ?_
  rintro e w2 ⟨rfl, hup⟩
  replace hk2 := hk2.up hup
  replace hupw := hupw.trans hup
  clear hup
  go_wp2_with fail
  refine (parsY hl hb).mono ?_
  rintro e w3 ⟨v_4, rfl, h_4, hup⟩
  replace hk2 := hk2.up hup
  replace hupw := hupw.trans hup
  clear hup
  obtain ⟨s_4, A_4, n_4, c_4, rfl⟩ := h_4.agg
  go_wp2_with fail
  obtain ⟨wa5, hwa5⟩ : ∃ x, x = (w3.alloc (.cells #[.bool s_4, .slice A_4 n_4 c_4] 24)) := ⟨_, rfl⟩
  have hup : Up w3 wa5 := by rw [hwa5]; exact ((Up.refl w3).alloc _)
  have howa5 : w.heap.size < w3.heap.size := hk2.lt
  have hzwa5 : w.heap.size ≤ w3.heap.size := hupw.size
  replace hk2 := hk2.up hup
  replace h_4 := h_4.up hup
  replace hupw := hupw.trans hup
  clear hup
  have hk7 : Bk wa5 (w3.heap.size) 24 #[.bool s_4, .slice A_4 n_4 c_4] := by
    have := (Bk.new w3 24 #[.bool s_4, .slice A_4 n_4 c_4])
    rw [hwa5]; simpa using this
  rw [← hwa5]
  clear hwa5
  refine (parsY hr hb2).mono ?_
  rintro e w6 ⟨v_7, rfl, h_7, hup⟩
  replace hk2 := hk2.up hup
  replace hk7 := hk7.up hup
  replace h_4 := h_4.up hup
  replace hupw := hupw.trans hup
  clear hup
  obtain ⟨s_7, A_7, n_7, c_7, rfl⟩ := h_7.agg
  have hk7c0 := hk7.cell (i := 0) rfl
  have hk7c1 := hk7.cell (i := 1) rfl
  have hk7l := hk7.lt
  have hk7l1 : w3.heap.size < w6.heap.size + 1 := by omega
  go_wp2_with fail
  clear hk7c0 hk7c1 hk7l hk7l1
  obtain ⟨wa8, hwa8⟩ : ∃ x, x = ((w6.alloc (.cells #[.bool s_7, .slice A_7 n_7 c_7] 24)).alloc (.cells #[.bool s_4, .slice A_4 n_4 c_4, .bool s_7, .slice A_7 n_7 c_7] 29)) := ⟨_, rfl⟩
  have hup : Up w6 wa8 := by rw [hwa8]; exact (((Up.refl w6).alloc _).alloc _)
  have howa8 : w3.heap.size < w6.heap.size := hk7.lt
  have hzwa8 : w.heap.size ≤ w6.heap.size := hupw.size
  replace hk2 := hk2.up hup
  replace h_4 := h_4.up hup
  replace h_7 := h_7.up hup
  replace hupw := hupw.trans hup
  clear hup
  have hk9 : Bk wa8 (w6.heap.size) 24 #[.bool s_7, .slice A_7 n_7 c_7] := by
    have := ((Bk.new w6 24 #[.bool s_7, .slice A_7 n_7 c_7]).alloc (.cells #[.bool s_4, .slice A_4 n_4 c_4, .bool s_7, .slice A_7 n_7 c_7] 29))
    rw [hwa8]; simpa using this
  have hk10 : Bk wa8 (w6.heap.size + 1) 29 #[.bool s_4, .slice A_4 n_4 c_4, .bool s_7, .slice A_7 n_7 c_7] := by
    have := (Bk.new (w6.alloc (.cells #[.bool s_7, .slice A_7 n_7 c_7] 24)) 29 #[.bool s_4, .slice A_4 n_4 c_4, .bool s_7, .slice A_7 n_7 c_7])
    rw [hwa8]; simpa using this
  rw [← hwa8]
  clear hwa8
  refine (fmtMQ (Fz.mk h_4 h_7) hq).mono ?_
  rintro e w9 ⟨rfl, hup⟩
  replace hk2 := hk2.up hup
  replace hupw := hupw.trans hup
  clear hup
  have hk2c0 := hk2.cell (i := 0) rfl
  have hk2c1 := hk2.cell (i := 1) rfl
  have hk2c2 := hk2.cell (i := 2) rfl
  have hk2c3 := hk2.cell (i := 3) rfl
  have hk2l := hk2.lt
  have hk2f0 := hk2.frozen 0
  have hk2f1 := hk2.frozen 1
  have hk2f2 := hk2.frozen 2
  have hk2f3 := hk2.frozen 3
  go_wp2_with fail
  clear hk2c0 hk2c1 hk2c2 hk2c3 hk2l hk2f0 hk2f1 hk2f2 hk2f3
  obtain ⟨ws10, hws10⟩ : ∃ x, x = (st4 w9 w.heap.size (.bool false) (.slice none 0 0) (.bool false) (.slice none 0 0)) := ⟨_, rfl⟩
  replace hupw := hupw.st4 (g := w.heap.size) (by omega) (.bool false) (.slice none 0 0) (.bool false) (.slice none 0 0)
  rw [← hws10] at hupw
  replace hk2 := hk2.four (.bool false) (.slice none 0 0) (.bool false) (.slice none 0 0)
  rw [← hws10] at hk2
  have hszws10 : ws10.heap.size = w9.heap.size := by rw [hws10]; simp [st4]
  unfold st4 at hws10
  rw [← hws10]
  clear hws10
  clear hszws10
  have hk2c0 := hk2.cell (i := 0) rfl
  have hk2c1 := hk2.cell (i := 1) rfl
  have hk2c2 := hk2.cell (i := 2) rfl
  have hk2c3 := hk2.cell (i := 3) rfl
  exact bodyPost_ret (v := .tuple #[.agg #[.bool false, .slice none 0 0, .bool false, .slice none 0 0], .int .i64 2]) (by simp [results, Tryz.results40, go_sem, hk2c0, hk2c1, hk2c2, hk2c3]) rfl ⟨_, rfl, Fz.mk (Iz.zero _) (Iz.zero _), hupw⟩
set_option maxRecDepth 100000 in
set_option maxHeartbeats 4000000 in
theorem parst_4 (T : ByteArray) (s L R : ByteArray) (w : World)  (hp : Pow w) (hc : ∀ W, Calls Tryz.prog 78 #[.string s, .string ⟨#[47]⟩] W (PCut W L R true)) (hl : L.size ≤ 1000) (hr : R.size ≤ 1000) (hb : okS L = true) (hb2 : okS R = true) (hq : lowB (valS L) (valS R) = true) (hT : Hid (rtx (valS L) (valS R) = T)) (hne : (T.toList == s.toList) = false) :
    Calls Tryz.prog 40 #[.string s] w (PFE w 0 0 2) := by
  have hupw : Up w w := Up.refl w
  go_enter Tryz.func40, Tryz.ntmps40
  go_wp2_with fail
  obtain ⟨wa1, hwa1⟩ : ∃ x, x = (w.alloc (.cells #[.bool false, .slice none 0 0, .bool false, .slice none 0 0] 29)) := ⟨_, rfl⟩
  have hup : Up w wa1 := by rw [hwa1]; exact ((Up.refl w).alloc _)
  have hzwa1 : w.heap.size ≤ w.heap.size := hupw.size
  replace hupw := hupw.trans hup
  clear hup
  have hk2 : Bk wa1 (w.heap.size) 29 #[.bool false, .slice none 0 0, .bool false, .slice none 0 0] := by
    have := (Bk.new w 29 #[.bool false, .slice none 0 0, .bool false, .slice none 0 0])
    rw [hwa1]; simpa using this
  rw [← hwa1]
  clear hwa1
  refine (hc _).mono ?_
  rintro e w2 ⟨rfl, hup⟩
  replace hk2 := hk2.up hup
  replace hupw := hupw.trans hup
  clear hup
  go_wp2_with fail
  refine (parsY hl hb).mono ?_
  rintro e w3 ⟨v_4, rfl, h_4, hup⟩
  replace hk2 := hk2.up hup
  replace hupw := hupw.trans hup
  clear hup
  obtain ⟨s_4, A_4, n_4, c_4, rfl⟩ := h_4.agg
  go_wp2_with fail
  obtain ⟨wa5, hwa5⟩ : ∃ x, x = (w3.alloc (.cells #[.bool s_4, .slice A_4 n_4 c_4] 24)) := ⟨_, rfl⟩
  have hup : Up w3 wa5 := by rw [hwa5]; exact ((Up.refl w3).alloc _)
  have howa5 : w.heap.size < w3.heap.size := hk2.lt
  have hzwa5 : w.heap.size ≤ w3.heap.size := hupw.size
  replace hk2 := hk2.up hup
  replace h_4 := h_4.up hup
  replace hupw := hupw.trans hup
  clear hup
  have hk7 : Bk wa5 (w3.heap.size) 24 #[.bool s_4, .slice A_4 n_4 c_4] := by
    have := (Bk.new w3 24 #[.bool s_4, .slice A_4 n_4 c_4])
    rw [hwa5]; simpa using this
  rw [← hwa5]
  clear hwa5
  refine (parsY hr hb2).mono ?_
  rintro e w6 ⟨v_7, rfl, h_7, hup⟩
  replace hk2 := hk2.up hup
  replace hk7 := hk7.up hup
  replace h_4 := h_4.up hup
  replace hupw := hupw.trans hup
  clear hup
  obtain ⟨s_7, A_7, n_7, c_7, rfl⟩ := h_7.agg
  have hk7c0 := hk7.cell (i := 0) rfl
  have hk7c1 := hk7.cell (i := 1) rfl
  have hk7l := hk7.lt
  have hk7l1 : w3.heap.size < w6.heap.size + 1 := by omega
  go_wp2_with fail
  clear hk7c0 hk7c1 hk7l hk7l1
  obtain ⟨wa8, hwa8⟩ : ∃ x, x = ((w6.alloc (.cells #[.bool s_7, .slice A_7 n_7 c_7] 24)).alloc (.cells #[.bool s_4, .slice A_4 n_4 c_4, .bool s_7, .slice A_7 n_7 c_7] 29)) := ⟨_, rfl⟩
  have hup : Up w6 wa8 := by rw [hwa8]; exact (((Up.refl w6).alloc _).alloc _)
  have howa8 : w3.heap.size < w6.heap.size := hk7.lt
  have hzwa8 : w.heap.size ≤ w6.heap.size := hupw.size
  replace hk2 := hk2.up hup
  replace h_4 := h_4.up hup
  replace h_7 := h_7.up hup
  replace hupw := hupw.trans hup
  clear hup
  have hk9 : Bk wa8 (w6.heap.size) 24 #[.bool s_7, .slice A_7 n_7 c_7] := by
    have := ((Bk.new w6 24 #[.bool s_7, .slice A_7 n_7 c_7]).alloc (.cells #[.bool s_4, .slice A_4 n_4 c_4, .bool s_7, .slice A_7 n_7 c_7] 29))
    rw [hwa8]; simpa using this
  have hk10 : Bk wa8 (w6.heap.size + 1) 29 #[.bool s_4, .slice A_4 n_4 c_4, .bool s_7, .slice A_7 n_7 c_7] := by
    have := (Bk.new (w6.alloc (.cells #[.bool s_7, .slice A_7 n_7 c_7] 24)) 29 #[.bool s_4, .slice A_4 n_4 c_4, .bool s_7, .slice A_7 n_7 c_7])
    rw [hwa8]; simpa using this
  rw [← hwa8]
  clear hwa8
  refine (fmtLQ (Fz.mk h_4 h_7) (hp.up hupw) hq hT.out).mono ?_
  rintro e w9 ⟨rfl, hup⟩
  replace hk2 := hk2.up hup
  replace hupw := hupw.trans hup
  clear hup
  have hk2c0 := hk2.cell (i := 0) rfl
  have hk2c1 := hk2.cell (i := 1) rfl
  have hk2c2 := hk2.cell (i := 2) rfl
  have hk2c3 := hk2.cell (i := 3) rfl
  have hk2l := hk2.lt
  have hk2f0 := hk2.frozen 0
  have hk2f1 := hk2.frozen 1
  have hk2f2 := hk2.frozen 2
  have hk2f3 := hk2.frozen 3
  go_wp2_with fail
  clear hk2c0 hk2c1 hk2c2 hk2c3 hk2l hk2f0 hk2f1 hk2f2 hk2f3
  obtain ⟨ws10, hws10⟩ : ∃ x, x = (st4 w9 w.heap.size (.bool false) (.slice none 0 0) (.bool false) (.slice none 0 0)) := ⟨_, rfl⟩
  replace hupw := hupw.st4 (g := w.heap.size) (by omega) (.bool false) (.slice none 0 0) (.bool false) (.slice none 0 0)
  rw [← hws10] at hupw
  replace hk2 := hk2.four (.bool false) (.slice none 0 0) (.bool false) (.slice none 0 0)
  rw [← hws10] at hk2
  have hszws10 : ws10.heap.size = w9.heap.size := by rw [hws10]; simp [st4]
  unfold st4 at hws10
  rw [← hws10]
  clear hws10
  clear hszws10
  have hk2c0 := hk2.cell (i := 0) rfl
  have hk2c1 := hk2.cell (i := 1) rfl
  have hk2c2 := hk2.cell (i := 2) rfl
  have hk2c3 := hk2.cell (i := 3) rfl
  exact bodyPost_ret (v := .tuple #[.agg #[.bool false, .slice none 0 0, .bool false, .slice none 0 0], .int .i64 2]) (by simp [results, Tryz.results40, go_sem, hk2c0, hk2c1, hk2c2, hk2c3]) rfl ⟨_, rfl, Fz.mk (Iz.zero _) (Iz.zero _), hupw⟩
set_option maxRecDepth 100000 in
set_option maxHeartbeats 4000000 in
theorem parst_5 (s L R : ByteArray) (w : World)  (hp : Pow w) (hc : ∀ W, Calls Tryz.prog 78 #[.string s, .string ⟨#[47]⟩] W (PCut W L R true)) (hl : L.size ≤ 1000) (hr : R.size ≤ 1000) (hb : okS L = true) (hb2 : okS R = true) (hq : lowB (valS L) (valS R) = true) (hT : Hid (rtx (valS L) (valS R) = s)) :
    Calls Tryz.prog 40 #[.string s] w (PFE w (valS L) (valS R) 0) := by
  have hupw : Up w w := Up.refl w
  go_enter Tryz.func40, Tryz.ntmps40
  go_wp2_with fail
  obtain ⟨wa1, hwa1⟩ : ∃ x, x = (w.alloc (.cells #[.bool false, .slice none 0 0, .bool false, .slice none 0 0] 29)) := ⟨_, rfl⟩
  have hup : Up w wa1 := by rw [hwa1]; exact ((Up.refl w).alloc _)
  have hzwa1 : w.heap.size ≤ w.heap.size := hupw.size
  replace hupw := hupw.trans hup
  clear hup
  have hk2 : Bk wa1 (w.heap.size) 29 #[.bool false, .slice none 0 0, .bool false, .slice none 0 0] := by
    have := (Bk.new w 29 #[.bool false, .slice none 0 0, .bool false, .slice none 0 0])
    rw [hwa1]; simpa using this
  rw [← hwa1]
  clear hwa1
  refine (hc _).mono ?_
  rintro e w2 ⟨rfl, hup⟩
  replace hk2 := hk2.up hup
  replace hupw := hupw.trans hup
  clear hup
  go_wp2_with fail
  refine (parsY hl hb).mono ?_
  rintro e w3 ⟨v_4, rfl, h_4, hup⟩
  replace hk2 := hk2.up hup
  replace hupw := hupw.trans hup
  clear hup
  obtain ⟨s_4, A_4, n_4, c_4, rfl⟩ := h_4.agg
  go_wp2_with fail
  obtain ⟨wa5, hwa5⟩ : ∃ x, x = (w3.alloc (.cells #[.bool s_4, .slice A_4 n_4 c_4] 24)) := ⟨_, rfl⟩
  have hup : Up w3 wa5 := by rw [hwa5]; exact ((Up.refl w3).alloc _)
  have howa5 : w.heap.size < w3.heap.size := hk2.lt
  have hzwa5 : w.heap.size ≤ w3.heap.size := hupw.size
  replace hk2 := hk2.up hup
  replace h_4 := h_4.up hup
  replace hupw := hupw.trans hup
  clear hup
  have hk7 : Bk wa5 (w3.heap.size) 24 #[.bool s_4, .slice A_4 n_4 c_4] := by
    have := (Bk.new w3 24 #[.bool s_4, .slice A_4 n_4 c_4])
    rw [hwa5]; simpa using this
  rw [← hwa5]
  clear hwa5
  refine (parsY hr hb2).mono ?_
  rintro e w6 ⟨v_7, rfl, h_7, hup⟩
  replace hk2 := hk2.up hup
  replace hk7 := hk7.up hup
  replace h_4 := h_4.up hup
  replace hupw := hupw.trans hup
  clear hup
  obtain ⟨s_7, A_7, n_7, c_7, rfl⟩ := h_7.agg
  have hk7c0 := hk7.cell (i := 0) rfl
  have hk7c1 := hk7.cell (i := 1) rfl
  have hk7l := hk7.lt
  have hk7l1 : w3.heap.size < w6.heap.size + 1 := by omega
  go_wp2_with fail
  clear hk7c0 hk7c1 hk7l hk7l1
  obtain ⟨wa8, hwa8⟩ : ∃ x, x = ((w6.alloc (.cells #[.bool s_7, .slice A_7 n_7 c_7] 24)).alloc (.cells #[.bool s_4, .slice A_4 n_4 c_4, .bool s_7, .slice A_7 n_7 c_7] 29)) := ⟨_, rfl⟩
  have hup : Up w6 wa8 := by rw [hwa8]; exact (((Up.refl w6).alloc _).alloc _)
  have howa8 : w3.heap.size < w6.heap.size := hk7.lt
  have hzwa8 : w.heap.size ≤ w6.heap.size := hupw.size
  replace hk2 := hk2.up hup
  replace h_4 := h_4.up hup
  replace h_7 := h_7.up hup
  replace hupw := hupw.trans hup
  clear hup
  have hk9 : Bk wa8 (w6.heap.size) 24 #[.bool s_7, .slice A_7 n_7 c_7] := by
    have := ((Bk.new w6 24 #[.bool s_7, .slice A_7 n_7 c_7]).alloc (.cells #[.bool s_4, .slice A_4 n_4 c_4, .bool s_7, .slice A_7 n_7 c_7] 29))
    rw [hwa8]; simpa using this
  have hk10 : Bk wa8 (w6.heap.size + 1) 29 #[.bool s_4, .slice A_4 n_4 c_4, .bool s_7, .slice A_7 n_7 c_7] := by
    have := (Bk.new (w6.alloc (.cells #[.bool s_7, .slice A_7 n_7 c_7] 24)) 29 #[.bool s_4, .slice A_4 n_4 c_4, .bool s_7, .slice A_7 n_7 c_7])
    rw [hwa8]; simpa using this
  rw [← hwa8]
  clear hwa8
  refine (fmtLQ (Fz.mk h_4 h_7) (hp.up hupw) hq hT.out).mono ?_
  rintro e w9 ⟨rfl, hup⟩
  replace hk2 := hk2.up hup
  replace hk10 := hk10.up hup
  replace h_4 := h_4.up hup
  replace h_7 := h_7.up hup
  replace hupw := hupw.trans hup
  clear hup
  have hk10c0 := hk10.cell (i := 0) rfl
  have hk10c1 := hk10.cell (i := 1) rfl
  have hk10c2 := hk10.cell (i := 2) rfl
  have hk10c3 := hk10.cell (i := 3) rfl
  have hk10l := hk10.lt
  have hk2c0 := hk2.cell (i := 0) rfl
  have hk2c1 := hk2.cell (i := 1) rfl
  have hk2c2 := hk2.cell (i := 2) rfl
  have hk2c3 := hk2.cell (i := 3) rfl
  have hk2l := hk2.lt
  have hk2f0 := hk2.frozen 0
  have hk2f1 := hk2.frozen 1
  have hk2f2 := hk2.frozen 2
  have hk2f3 := hk2.frozen 3
  go_wp2_with fail
  clear hk10c0 hk10c1 hk10c2 hk10c3 hk10l hk2c0 hk2c1 hk2c2 hk2c3 hk2l hk2f0 hk2f1 hk2f2 hk2f3
  obtain ⟨ws10, hws10⟩ : ∃ x, x = (st4 w9 w.heap.size (.bool s_4) (.slice A_4 n_4 c_4) (.bool s_7) (.slice A_7 n_7 c_7)) := ⟨_, rfl⟩
  have h_4' := h_4.st4 hk2 (noU4 _ _ _ _ _ _ _ _) (.bool s_4) (.slice A_4 n_4 c_4) (.bool s_7) (.slice A_7 n_7 c_7)
  have h_7' := h_7.st4 hk2 (noU4 _ _ _ _ _ _ _ _) (.bool s_4) (.slice A_4 n_4 c_4) (.bool s_7) (.slice A_7 n_7 c_7)
  rw [← hws10] at h_4'
  clear h_4
  have h_4 := h_4'
  clear h_4'
  rw [← hws10] at h_7'
  clear h_7
  have h_7 := h_7'
  clear h_7'
  replace hupw := hupw.st4 (g := w.heap.size) (by omega) (.bool s_4) (.slice A_4 n_4 c_4) (.bool s_7) (.slice A_7 n_7 c_7)
  rw [← hws10] at hupw
  replace hk2 := hk2.four (.bool s_4) (.slice A_4 n_4 c_4) (.bool s_7) (.slice A_7 n_7 c_7)
  rw [← hws10] at hk2
  have hszws10 : ws10.heap.size = w9.heap.size := by rw [hws10]; simp [st4]
  unfold st4 at hws10
  rw [← hws10]
  clear hws10
  clear hszws10
  have hk2c0 := hk2.cell (i := 0) rfl
  have hk2c1 := hk2.cell (i := 1) rfl
  have hk2c2 := hk2.cell (i := 2) rfl
  have hk2c3 := hk2.cell (i := 3) rfl
  exact bodyPost_ret (v := .tuple #[.agg #[.bool s_4, .slice A_4 n_4 c_4, .bool s_7, .slice A_7 n_7 c_7], .int .i64 0]) (by simp [results, Tryz.results40, go_sem, hk2c0, hk2c1, hk2c2, hk2c3]) rfl ⟨_, rfl, Fz.mk h_4 h_7, hupw⟩
set_option maxRecDepth 100000 in
set_option maxHeartbeats 4000000 in
theorem parsf_1 (s L : ByteArray) (w : World)  (hc : ∀ W, Calls Tryz.prog 78 #[.string s, .string ⟨#[47]⟩] W (PCut W L ⟨#[]⟩ false)) (hl : L.size ≤ 1000) (hb : okS L = false) :
    Calls Tryz.prog 40 #[.string s] w (PFE w 0 0 2) := by
  have hupw : Up w w := Up.refl w
  go_enter Tryz.func40, Tryz.ntmps40
  go_wp2_with fail
  obtain ⟨wa1, hwa1⟩ : ∃ x, x = (w.alloc (.cells #[.bool false, .slice none 0 0, .bool false, .slice none 0 0] 29)) := ⟨_, rfl⟩
  have hup : Up w wa1 := by rw [hwa1]; exact ((Up.refl w).alloc _)
  have hzwa1 : w.heap.size ≤ w.heap.size := hupw.size
  replace hupw := hupw.trans hup
  clear hup
  have hk2 : Bk wa1 (w.heap.size) 29 #[.bool false, .slice none 0 0, .bool false, .slice none 0 0] := by
    have := (Bk.new w 29 #[.bool false, .slice none 0 0, .bool false, .slice none 0 0])
    rw [hwa1]; simpa using this
  rw [← hwa1]
  clear hwa1
  refine (hc _).mono ?_
  rintro e w2 ⟨rfl, hup⟩
  replace hk2 := hk2.up hup
  replace hupw := hupw.trans hup
  clear hup
  go_wp2_with fail
  refine (parsN hl hb).mono ?_
  rintro e w3 ⟨v_4, rfl, h_4, hup⟩
  replace hk2 := hk2.up hup
  replace hupw := hupw.trans hup
  clear hup
  obtain ⟨s_4, A_4, n_4, c_4, rfl⟩ := h_4.agg
  have hk2c0 := hk2.cell (i := 0) rfl
  have hk2c1 := hk2.cell (i := 1) rfl
  have hk2c2 := hk2.cell (i := 2) rfl
  have hk2c3 := hk2.cell (i := 3) rfl
  have hk2l := hk2.lt
  have hk2f0 := hk2.frozen 0
  have hk2f1 := hk2.frozen 1
  have hk2f2 := hk2.frozen 2
  have hk2f3 := hk2.frozen 3
  go_wp2_with fail
  clear hk2c0 hk2c1 hk2c2 hk2c3 hk2l hk2f0 hk2f1 hk2f2 hk2f3
  obtain ⟨ws5, hws5⟩ : ∃ x, x = (st4 w3 w.heap.size (.bool false) (.slice none 0 0) (.bool false) (.slice none 0 0)) := ⟨_, rfl⟩
  replace hupw := hupw.st4 (g := w.heap.size) (by omega) (.bool false) (.slice none 0 0) (.bool false) (.slice none 0 0)
  rw [← hws5] at hupw
  replace hk2 := hk2.four (.bool false) (.slice none 0 0) (.bool false) (.slice none 0 0)
  rw [← hws5] at hk2
  have hszws5 : ws5.heap.size = w3.heap.size := by rw [hws5]; simp [st4]
  unfold st4 at hws5
  rw [← hws5]
  clear hws5
  obtain ⟨wa6, hwa6⟩ : ∃ x, x = (ws5.alloc (.cells #[.bool s_4, .slice A_4 n_4 c_4] 24)) := ⟨_, rfl⟩
  have hup : Up ws5 wa6 := by rw [hwa6]; exact ((Up.refl ws5).alloc _)
  have howa6 : w.heap.size < w3.heap.size := by have := hk2.lt; omega
  have hzwa6 : w.heap.size ≤ w3.heap.size := by have := hupw.size; omega
  replace hk2 := hk2.up hup
  replace hupw := hupw.trans hup
  clear hup
  have hk7 : Bk wa6 (w3.heap.size) 24 #[.bool s_4, .slice A_4 n_4 c_4] := by
    have := (Bk.new ws5 24 #[.bool s_4, .slice A_4 n_4 c_4])
    rw [hwa6]; simpa [hszws5] using this
  rw [← hwa6]
  clear hwa6
  clear hszws5
  have hk2c0 := hk2.cell (i := 0) rfl
  have hk2c1 := hk2.cell (i := 1) rfl
  have hk2c2 := hk2.cell (i := 2) rfl
  have hk2c3 := hk2.cell (i := 3) rfl
  exact bodyPost_ret (v := .tuple #[.agg #[.bool false, .slice none 0 0, .bool false, .slice none 0 0], .int .i64 2]) (by simp [results, Tryz.results40, go_sem, hk2c0, hk2c1, hk2c2, hk2c3]) rfl ⟨_, rfl, Fz.mk (Iz.zero _) (Iz.zero _), hupw⟩
set_option maxRecDepth 100000 in
set_option maxHeartbeats 4000000 in
theorem parsf_2 (s L : ByteArray) (w : World)  (hc : ∀ W, Calls Tryz.prog 78 #[.string s, .string ⟨#[47]⟩] W (PCut W L ⟨#[]⟩ false)) (hl : L.size ≤ 1000) (hb : okS L = true) (hb2 : okS ⟨#[49]⟩ = false) :
    Calls Tryz.prog 40 #[.string s] w (PFE w 0 0 2) := by
  have hupw : Up w w := Up.refl w
  go_enter Tryz.func40, Tryz.ntmps40
  go_wp2_with fail
  obtain ⟨wa1, hwa1⟩ : ∃ x, x = (w.alloc (.cells #[.bool false, .slice none 0 0, .bool false, .slice none 0 0] 29)) := ⟨_, rfl⟩
  have hup : Up w wa1 := by rw [hwa1]; exact ((Up.refl w).alloc _)
  have hzwa1 : w.heap.size ≤ w.heap.size := hupw.size
  replace hupw := hupw.trans hup
  clear hup
  have hk2 : Bk wa1 (w.heap.size) 29 #[.bool false, .slice none 0 0, .bool false, .slice none 0 0] := by
    have := (Bk.new w 29 #[.bool false, .slice none 0 0, .bool false, .slice none 0 0])
    rw [hwa1]; simpa using this
  rw [← hwa1]
  clear hwa1
  refine (hc _).mono ?_
  rintro e w2 ⟨rfl, hup⟩
  replace hk2 := hk2.up hup
  replace hupw := hupw.trans hup
  clear hup
  go_wp2_with fail
  refine (parsY hl hb).mono ?_
  rintro e w3 ⟨v_4, rfl, h_4, hup⟩
  replace hk2 := hk2.up hup
  replace hupw := hupw.trans hup
  clear hup
  obtain ⟨s_4, A_4, n_4, c_4, rfl⟩ := h_4.agg
  go_wp2_with fail
  obtain ⟨wa5, hwa5⟩ : ∃ x, x = (w3.alloc (.cells #[.bool s_4, .slice A_4 n_4 c_4] 24)) := ⟨_, rfl⟩
  have hup : Up w3 wa5 := by rw [hwa5]; exact ((Up.refl w3).alloc _)
  have howa5 : w.heap.size < w3.heap.size := hk2.lt
  have hzwa5 : w.heap.size ≤ w3.heap.size := hupw.size
  replace hk2 := hk2.up hup
  replace hupw := hupw.trans hup
  clear hup
  have hk7 : Bk wa5 (w3.heap.size) 24 #[.bool s_4, .slice A_4 n_4 c_4] := by
    have := (Bk.new w3 24 #[.bool s_4, .slice A_4 n_4 c_4])
    rw [hwa5]; simpa using this
  rw [← hwa5]
  clear hwa5
  refine (parsN (by decide) hb2).mono ?_
  rintro e w6 ⟨v_7, rfl, h_7, hup⟩
  replace hk2 := hk2.up hup
  replace hk7 := hk7.up hup
  replace hupw := hupw.trans hup
  clear hup
  obtain ⟨s_7, A_7, n_7, c_7, rfl⟩ := h_7.agg
  have hk2c0 := hk2.cell (i := 0) rfl
  have hk2c1 := hk2.cell (i := 1) rfl
  have hk2c2 := hk2.cell (i := 2) rfl
  have hk2c3 := hk2.cell (i := 3) rfl
  have hk2l := hk2.lt
  have hk2f0 := hk2.frozen 0
  have hk2f1 := hk2.frozen 1
  have hk2f2 := hk2.frozen 2
  have hk2f3 := hk2.frozen 3
  go_wp2_with fail
  clear hk2c0 hk2c1 hk2c2 hk2c3 hk2l hk2f0 hk2f1 hk2f2 hk2f3
  obtain ⟨ws8, hws8⟩ : ∃ x, x = (st4 w6 w.heap.size (.bool false) (.slice none 0 0) (.bool false) (.slice none 0 0)) := ⟨_, rfl⟩
  replace hk7 := hk7.far4 (g' := w.heap.size) (by omega) (.bool false) (.slice none 0 0) (.bool false) (.slice none 0 0)
  rw [← hws8] at hk7
  replace hupw := hupw.st4 (g := w.heap.size) (by omega) (.bool false) (.slice none 0 0) (.bool false) (.slice none 0 0)
  rw [← hws8] at hupw
  replace hk2 := hk2.four (.bool false) (.slice none 0 0) (.bool false) (.slice none 0 0)
  rw [← hws8] at hk2
  have hszws8 : ws8.heap.size = w6.heap.size := by rw [hws8]; simp [st4]
  unfold st4 at hws8
  rw [← hws8]
  clear hws8
  obtain ⟨wa9, hwa9⟩ : ∃ x, x = (ws8.alloc (.cells #[.bool s_7, .slice A_7 n_7 c_7] 24)) := ⟨_, rfl⟩
  have hup : Up ws8 wa9 := by rw [hwa9]; exact ((Up.refl ws8).alloc _)
  have howa9 : w3.heap.size < w6.heap.size := by have := hk7.lt; omega
  have hzwa9 : w.heap.size ≤ w6.heap.size := by have := hupw.size; omega
  replace hk2 := hk2.up hup
  replace hupw := hupw.trans hup
  clear hup
  have hk9 : Bk wa9 (w6.heap.size) 24 #[.bool s_7, .slice A_7 n_7 c_7] := by
    have := (Bk.new ws8 24 #[.bool s_7, .slice A_7 n_7 c_7])
    rw [hwa9]; simpa [hszws8] using this
  rw [← hwa9]
  clear hwa9
  clear hszws8
  have hk2c0 := hk2.cell (i := 0) rfl
  have hk2c1 := hk2.cell (i := 1) rfl
  have hk2c2 := hk2.cell (i := 2) rfl
  have hk2c3 := hk2.cell (i := 3) rfl
  exact bodyPost_ret (v := .tuple #[.agg #[.bool false, .slice none 0 0, .bool false, .slice none 0 0], .int .i64 2]) (by simp [results, Tryz.results40, go_sem, hk2c0, hk2c1, hk2c2, hk2c3]) rfl ⟨_, rfl, Fz.mk (Iz.zero _) (Iz.zero _), hupw⟩
set_option maxRecDepth 100000 in
set_option maxHeartbeats 4000000 in
theorem parsf_3 (s L : ByteArray) (w : World)  (hc : ∀ W, Calls Tryz.prog 78 #[.string s, .string ⟨#[47]⟩] W (PCut W L ⟨#[]⟩ false)) (hl : L.size ≤ 1000) (hb : okS L = true) (hb2 : okS ⟨#[49]⟩ = true) (hq : lowB (valS L) (valS ⟨#[49]⟩) = false) :
    Calls Tryz.prog 40 #[.string s] w (PFE w 0 0 2) := by
  have hupw : Up w w := Up.refl w
  go_enter Tryz.func40, Tryz.ntmps40
  go_wp2_with fail
  obtain ⟨wa1, hwa1⟩ : ∃ x, x = (w.alloc (.cells #[.bool false, .slice none 0 0, .bool false, .slice none 0 0] 29)) := ⟨_, rfl⟩
  have hup : Up w wa1 := by rw [hwa1]; exact ((Up.refl w).alloc _)
  have hzwa1 : w.heap.size ≤ w.heap.size := hupw.size
  replace hupw := hupw.trans hup
  clear hup
  have hk2 : Bk wa1 (w.heap.size) 29 #[.bool false, .slice none 0 0, .bool false, .slice none 0 0] := by
    have := (Bk.new w 29 #[.bool false, .slice none 0 0, .bool false, .slice none 0 0])
    rw [hwa1]; simpa using this
  rw [← hwa1]
  clear hwa1
  refine (hc _).mono ?_
  rintro e w2 ⟨rfl, hup⟩
  replace hk2 := hk2.up hup
  replace hupw := hupw.trans hup
  clear hup
  go_wp2_with fail
  refine (parsY hl hb).mono ?_
  rintro e w3 ⟨v_4, rfl, h_4, hup⟩
  replace hk2 := hk2.up hup
  replace hupw := hupw.trans hup
  clear hup
  obtain ⟨s_4, A_4, n_4, c_4, rfl⟩ := h_4.agg
  go_wp2_with fail
  obtain ⟨wa5, hwa5⟩ : ∃ x, x = (w3.alloc (.cells #[.bool s_4, .slice A_4 n_4 c_4] 24)) := ⟨_, rfl⟩
  have hup : Up w3 wa5 := by rw [hwa5]; exact ((Up.refl w3).alloc _)
  have howa5 : w.heap.size < w3.heap.size := hk2.lt
  have hzwa5 : w.heap.size ≤ w3.heap.size := hupw.size
  replace hk2 := hk2.up hup
  replace h_4 := h_4.up hup
  replace hupw := hupw.trans hup
  clear hup
  have hk7 : Bk wa5 (w3.heap.size) 24 #[.bool s_4, .slice A_4 n_4 c_4] := by
    have := (Bk.new w3 24 #[.bool s_4, .slice A_4 n_4 c_4])
    rw [hwa5]; simpa using this
  rw [← hwa5]
  clear hwa5
  refine (parsY (by decide) hb2).mono ?_
  rintro e w6 ⟨v_7, rfl, h_7, hup⟩
  replace hk2 := hk2.up hup
  replace hk7 := hk7.up hup
  replace h_4 := h_4.up hup
  replace hupw := hupw.trans hup
  clear hup
  obtain ⟨s_7, A_7, n_7, c_7, rfl⟩ := h_7.agg
  have hk7c0 := hk7.cell (i := 0) rfl
  have hk7c1 := hk7.cell (i := 1) rfl
  have hk7l := hk7.lt
  have hk7l1 : w3.heap.size < w6.heap.size + 1 := by omega
  go_wp2_with fail
  clear hk7c0 hk7c1 hk7l hk7l1
  obtain ⟨wa8, hwa8⟩ : ∃ x, x = ((w6.alloc (.cells #[.bool s_7, .slice A_7 n_7 c_7] 24)).alloc (.cells #[.bool s_4, .slice A_4 n_4 c_4, .bool s_7, .slice A_7 n_7 c_7] 29)) := ⟨_, rfl⟩
  have hup : Up w6 wa8 := by rw [hwa8]; exact (((Up.refl w6).alloc _).alloc _)
  have howa8 : w3.heap.size < w6.heap.size := hk7.lt
  have hzwa8 : w.heap.size ≤ w6.heap.size := hupw.size
  replace hk2 := hk2.up hup
  replace h_4 := h_4.up hup
  replace h_7 := h_7.up hup
  replace hupw := hupw.trans hup
  clear hup
  have hk9 : Bk wa8 (w6.heap.size) 24 #[.bool s_7, .slice A_7 n_7 c_7] := by
    have := ((Bk.new w6 24 #[.bool s_7, .slice A_7 n_7 c_7]).alloc (.cells #[.bool s_4, .slice A_4 n_4 c_4, .bool s_7, .slice A_7 n_7 c_7] 29))
    rw [hwa8]; simpa using this
  have hk10 : Bk wa8 (w6.heap.size + 1) 29 #[.bool s_4, .slice A_4 n_4 c_4, .bool s_7, .slice A_7 n_7 c_7] := by
    have := (Bk.new (w6.alloc (.cells #[.bool s_7, .slice A_7 n_7 c_7] 24)) 29 #[.bool s_4, .slice A_4 n_4 c_4, .bool s_7, .slice A_7 n_7 c_7])
    rw [hwa8]; simpa using this
  rw [← hwa8]
  clear hwa8
  refine (fmtMQ (Fz.mk h_4 h_7) hq).mono ?_
  rintro e w9 ⟨rfl, hup⟩
  replace hk2 := hk2.up hup
  replace hupw := hupw.trans hup
  clear hup
  have hk2c0 := hk2.cell (i := 0) rfl
  have hk2c1 := hk2.cell (i := 1) rfl
  have hk2c2 := hk2.cell (i := 2) rfl
  have hk2c3 := hk2.cell (i := 3) rfl
  have hk2l := hk2.lt
  have hk2f0 := hk2.frozen 0
  have hk2f1 := hk2.frozen 1
  have hk2f2 := hk2.frozen 2
  have hk2f3 := hk2.frozen 3
  go_wp2_with fail
  clear hk2c0 hk2c1 hk2c2 hk2c3 hk2l hk2f0 hk2f1 hk2f2 hk2f3
  obtain ⟨ws10, hws10⟩ : ∃ x, x = (st4 w9 w.heap.size (.bool false) (.slice none 0 0) (.bool false) (.slice none 0 0)) := ⟨_, rfl⟩
  replace hupw := hupw.st4 (g := w.heap.size) (by omega) (.bool false) (.slice none 0 0) (.bool false) (.slice none 0 0)
  rw [← hws10] at hupw
  replace hk2 := hk2.four (.bool false) (.slice none 0 0) (.bool false) (.slice none 0 0)
  rw [← hws10] at hk2
  have hszws10 : ws10.heap.size = w9.heap.size := by rw [hws10]; simp [st4]
  unfold st4 at hws10
  rw [← hws10]
  clear hws10
  clear hszws10
  have hk2c0 := hk2.cell (i := 0) rfl
  have hk2c1 := hk2.cell (i := 1) rfl
  have hk2c2 := hk2.cell (i := 2) rfl
  have hk2c3 := hk2.cell (i := 3) rfl
  exact bodyPost_ret (v := .tuple #[.agg #[.bool false, .slice none 0 0, .bool false, .slice none 0 0], .int .i64 2]) (by simp [results, Tryz.results40, go_sem, hk2c0, hk2c1, hk2c2, hk2c3]) rfl ⟨_, rfl, Fz.mk (Iz.zero _) (Iz.zero _), hupw⟩
set_option maxRecDepth 100000 in
set_option maxHeartbeats 4000000 in
theorem parsf_4 (T : ByteArray) (s L : ByteArray) (w : World)  (hp : Pow w) (hc : ∀ W, Calls Tryz.prog 78 #[.string s, .string ⟨#[47]⟩] W (PCut W L ⟨#[]⟩ false)) (hl : L.size ≤ 1000) (hb : okS L = true) (hb2 : okS ⟨#[49]⟩ = true) (hq : lowB (valS L) (valS ⟨#[49]⟩) = true) (hT : Hid (rtx (valS L) (valS ⟨#[49]⟩) = T)) (hne : (T.toList == s.toList) = false) :
    Calls Tryz.prog 40 #[.string s] w (PFE w 0 0 2) := by
  have hupw : Up w w := Up.refl w
  go_enter Tryz.func40, Tryz.ntmps40
  go_wp2_with fail
  obtain ⟨wa1, hwa1⟩ : ∃ x, x = (w.alloc (.cells #[.bool false, .slice none 0 0, .bool false, .slice none 0 0] 29)) := ⟨_, rfl⟩
  have hup : Up w wa1 := by rw [hwa1]; exact ((Up.refl w).alloc _)
  have hzwa1 : w.heap.size ≤ w.heap.size := hupw.size
  replace hupw := hupw.trans hup
  clear hup
  have hk2 : Bk wa1 (w.heap.size) 29 #[.bool false, .slice none 0 0, .bool false, .slice none 0 0] := by
    have := (Bk.new w 29 #[.bool false, .slice none 0 0, .bool false, .slice none 0 0])
    rw [hwa1]; simpa using this
  rw [← hwa1]
  clear hwa1
  refine (hc _).mono ?_
  rintro e w2 ⟨rfl, hup⟩
  replace hk2 := hk2.up hup
  replace hupw := hupw.trans hup
  clear hup
  go_wp2_with fail
  refine (parsY hl hb).mono ?_
  rintro e w3 ⟨v_4, rfl, h_4, hup⟩
  replace hk2 := hk2.up hup
  replace hupw := hupw.trans hup
  clear hup
  obtain ⟨s_4, A_4, n_4, c_4, rfl⟩ := h_4.agg
  go_wp2_with fail
  obtain ⟨wa5, hwa5⟩ : ∃ x, x = (w3.alloc (.cells #[.bool s_4, .slice A_4 n_4 c_4] 24)) := ⟨_, rfl⟩
  have hup : Up w3 wa5 := by rw [hwa5]; exact ((Up.refl w3).alloc _)
  have howa5 : w.heap.size < w3.heap.size := hk2.lt
  have hzwa5 : w.heap.size ≤ w3.heap.size := hupw.size
  replace hk2 := hk2.up hup
  replace h_4 := h_4.up hup
  replace hupw := hupw.trans hup
  clear hup
  have hk7 : Bk wa5 (w3.heap.size) 24 #[.bool s_4, .slice A_4 n_4 c_4] := by
    have := (Bk.new w3 24 #[.bool s_4, .slice A_4 n_4 c_4])
    rw [hwa5]; simpa using this
  rw [← hwa5]
  clear hwa5
  refine (parsY (by decide) hb2).mono ?_
  rintro e w6 ⟨v_7, rfl, h_7, hup⟩
  replace hk2 := hk2.up hup
  replace hk7 := hk7.up hup
  replace h_4 := h_4.up hup
  replace hupw := hupw.trans hup
  clear hup
  obtain ⟨s_7, A_7, n_7, c_7, rfl⟩ := h_7.agg
  have hk7c0 := hk7.cell (i := 0) rfl
  have hk7c1 := hk7.cell (i := 1) rfl
  have hk7l := hk7.lt
  have hk7l1 : w3.heap.size < w6.heap.size + 1 := by omega
  go_wp2_with fail
  clear hk7c0 hk7c1 hk7l hk7l1
  obtain ⟨wa8, hwa8⟩ : ∃ x, x = ((w6.alloc (.cells #[.bool s_7, .slice A_7 n_7 c_7] 24)).alloc (.cells #[.bool s_4, .slice A_4 n_4 c_4, .bool s_7, .slice A_7 n_7 c_7] 29)) := ⟨_, rfl⟩
  have hup : Up w6 wa8 := by rw [hwa8]; exact (((Up.refl w6).alloc _).alloc _)
  have howa8 : w3.heap.size < w6.heap.size := hk7.lt
  have hzwa8 : w.heap.size ≤ w6.heap.size := hupw.size
  replace hk2 := hk2.up hup
  replace h_4 := h_4.up hup
  replace h_7 := h_7.up hup
  replace hupw := hupw.trans hup
  clear hup
  have hk9 : Bk wa8 (w6.heap.size) 24 #[.bool s_7, .slice A_7 n_7 c_7] := by
    have := ((Bk.new w6 24 #[.bool s_7, .slice A_7 n_7 c_7]).alloc (.cells #[.bool s_4, .slice A_4 n_4 c_4, .bool s_7, .slice A_7 n_7 c_7] 29))
    rw [hwa8]; simpa using this
  have hk10 : Bk wa8 (w6.heap.size + 1) 29 #[.bool s_4, .slice A_4 n_4 c_4, .bool s_7, .slice A_7 n_7 c_7] := by
    have := (Bk.new (w6.alloc (.cells #[.bool s_7, .slice A_7 n_7 c_7] 24)) 29 #[.bool s_4, .slice A_4 n_4 c_4, .bool s_7, .slice A_7 n_7 c_7])
    rw [hwa8]; simpa using this
  rw [← hwa8]
  clear hwa8
  refine (fmtLQ (Fz.mk h_4 h_7) (hp.up hupw) hq hT.out).mono ?_
  rintro e w9 ⟨rfl, hup⟩
  replace hk2 := hk2.up hup
  replace hupw := hupw.trans hup
  clear hup
  have hk2c0 := hk2.cell (i := 0) rfl
  have hk2c1 := hk2.cell (i := 1) rfl
  have hk2c2 := hk2.cell (i := 2) rfl
  have hk2c3 := hk2.cell (i := 3) rfl
  have hk2l := hk2.lt
  have hk2f0 := hk2.frozen 0
  have hk2f1 := hk2.frozen 1
  have hk2f2 := hk2.frozen 2
  have hk2f3 := hk2.frozen 3
  go_wp2_with fail
  clear hk2c0 hk2c1 hk2c2 hk2c3 hk2l hk2f0 hk2f1 hk2f2 hk2f3
  obtain ⟨ws10, hws10⟩ : ∃ x, x = (st4 w9 w.heap.size (.bool false) (.slice none 0 0) (.bool false) (.slice none 0 0)) := ⟨_, rfl⟩
  replace hupw := hupw.st4 (g := w.heap.size) (by omega) (.bool false) (.slice none 0 0) (.bool false) (.slice none 0 0)
  rw [← hws10] at hupw
  replace hk2 := hk2.four (.bool false) (.slice none 0 0) (.bool false) (.slice none 0 0)
  rw [← hws10] at hk2
  have hszws10 : ws10.heap.size = w9.heap.size := by rw [hws10]; simp [st4]
  unfold st4 at hws10
  rw [← hws10]
  clear hws10
  clear hszws10
  have hk2c0 := hk2.cell (i := 0) rfl
  have hk2c1 := hk2.cell (i := 1) rfl
  have hk2c2 := hk2.cell (i := 2) rfl
  have hk2c3 := hk2.cell (i := 3) rfl
  exact bodyPost_ret (v := .tuple #[.agg #[.bool false, .slice none 0 0, .bool false, .slice none 0 0], .int .i64 2]) (by simp [results, Tryz.results40, go_sem, hk2c0, hk2c1, hk2c2, hk2c3]) rfl ⟨_, rfl, Fz.mk (Iz.zero _) (Iz.zero _), hupw⟩
set_option maxRecDepth 100000 in
set_option maxHeartbeats 4000000 in
theorem parsf_5 (s L : ByteArray) (w : World)  (hp : Pow w) (hc : ∀ W, Calls Tryz.prog 78 #[.string s, .string ⟨#[47]⟩] W (PCut W L ⟨#[]⟩ false)) (hl : L.size ≤ 1000) (hb : okS L = true) (hb2 : okS ⟨#[49]⟩ = true) (hq : lowB (valS L) (valS ⟨#[49]⟩) = true) (hT : Hid (rtx (valS L) (valS ⟨#[49]⟩) = s)) :
    Calls Tryz.prog 40 #[.string s] w (PFE w (valS L) (valS ⟨#[49]⟩) 0) := by
  have hupw : Up w w := Up.refl w
  go_enter Tryz.func40, Tryz.ntmps40
  go_wp2_with fail
  obtain ⟨wa1, hwa1⟩ : ∃ x, x = (w.alloc (.cells #[.bool false, .slice none 0 0, .bool false, .slice none 0 0] 29)) := ⟨_, rfl⟩
  have hup : Up w wa1 := by rw [hwa1]; exact ((Up.refl w).alloc _)
  have hzwa1 : w.heap.size ≤ w.heap.size := hupw.size
  replace hupw := hupw.trans hup
  clear hup
  have hk2 : Bk wa1 (w.heap.size) 29 #[.bool false, .slice none 0 0, .bool false, .slice none 0 0] := by
    have := (Bk.new w 29 #[.bool false, .slice none 0 0, .bool false, .slice none 0 0])
    rw [hwa1]; simpa using this
  rw [← hwa1]
  clear hwa1
  refine (hc _).mono ?_
  rintro e w2 ⟨rfl, hup⟩
  replace hk2 := hk2.up hup
  replace hupw := hupw.trans hup
  clear hup
  go_wp2_with fail
  refine (parsY hl hb).mono ?_
  rintro e w3 ⟨v_4, rfl, h_4, hup⟩
  replace hk2 := hk2.up hup
  replace hupw := hupw.trans hup
  clear hup
  obtain ⟨s_4, A_4, n_4, c_4, rfl⟩ := h_4.agg
  go_wp2_with fail
  obtain ⟨wa5, hwa5⟩ : ∃ x, x = (w3.alloc (.cells #[.bool s_4, .slice A_4 n_4 c_4] 24)) := ⟨_, rfl⟩
  have hup : Up w3 wa5 := by rw [hwa5]; exact ((Up.refl w3).alloc _)
  have howa5 : w.heap.size < w3.heap.size := hk2.lt
  have hzwa5 : w.heap.size ≤ w3.heap.size := hupw.size
  replace hk2 := hk2.up hup
  replace h_4 := h_4.up hup
  replace hupw := hupw.trans hup
  clear hup
  have hk7 : Bk wa5 (w3.heap.size) 24 #[.bool s_4, .slice A_4 n_4 c_4] := by
    have := (Bk.new w3 24 #[.bool s_4, .slice A_4 n_4 c_4])
    rw [hwa5]; simpa using this
  rw [← hwa5]
  clear hwa5
  refine (parsY (by decide) hb2).mono ?_
  rintro e w6 ⟨v_7, rfl, h_7, hup⟩
  replace hk2 := hk2.up hup
  replace hk7 := hk7.up hup
  replace h_4 := h_4.up hup
  replace hupw := hupw.trans hup
  clear hup
  obtain ⟨s_7, A_7, n_7, c_7, rfl⟩ := h_7.agg
  have hk7c0 := hk7.cell (i := 0) rfl
  have hk7c1 := hk7.cell (i := 1) rfl
  have hk7l := hk7.lt
  have hk7l1 : w3.heap.size < w6.heap.size + 1 := by omega
  go_wp2_with fail
  clear hk7c0 hk7c1 hk7l hk7l1
  obtain ⟨wa8, hwa8⟩ : ∃ x, x = ((w6.alloc (.cells #[.bool s_7, .slice A_7 n_7 c_7] 24)).alloc (.cells #[.bool s_4, .slice A_4 n_4 c_4, .bool s_7, .slice A_7 n_7 c_7] 29)) := ⟨_, rfl⟩
  have hup : Up w6 wa8 := by rw [hwa8]; exact (((Up.refl w6).alloc _).alloc _)
  have howa8 : w3.heap.size < w6.heap.size := hk7.lt
  have hzwa8 : w.heap.size ≤ w6.heap.size := hupw.size
  replace hk2 := hk2.up hup
  replace h_4 := h_4.up hup
  replace h_7 := h_7.up hup
  replace hupw := hupw.trans hup
  clear hup
  have hk9 : Bk wa8 (w6.heap.size) 24 #[.bool s_7, .slice A_7 n_7 c_7] := by
    have := ((Bk.new w6 24 #[.bool s_7, .slice A_7 n_7 c_7]).alloc (.cells #[.bool s_4, .slice A_4 n_4 c_4, .bool s_7, .slice A_7 n_7 c_7] 29))
    rw [hwa8]; simpa using this
  have hk10 : Bk wa8 (w6.heap.size + 1) 29 #[.bool s_4, .slice A_4 n_4 c_4, .bool s_7, .slice A_7 n_7 c_7] := by
    have := (Bk.new (w6.alloc (.cells #[.bool s_7, .slice A_7 n_7 c_7] 24)) 29 #[.bool s_4, .slice A_4 n_4 c_4, .bool s_7, .slice A_7 n_7 c_7])
    rw [hwa8]; simpa using this
  rw [← hwa8]
  clear hwa8
  refine (fmtLQ (Fz.mk h_4 h_7) (hp.up hupw) hq hT.out).mono ?_
  rintro e w9 ⟨rfl, hup⟩
  replace hk2 := hk2.up hup
  replace hk10 := hk10.up hup
  replace h_4 := h_4.up hup
  replace h_7 := h_7.up hup
  replace hupw := hupw.trans hup
  clear hup
  have hk10c0 := hk10.cell (i := 0) rfl
  have hk10c1 := hk10.cell (i := 1) rfl
  have hk10c2 := hk10.cell (i := 2) rfl
  have hk10c3 := hk10.cell (i := 3) rfl
  have hk10l := hk10.lt
  have hk2c0 := hk2.cell (i := 0) rfl
  have hk2c1 := hk2.cell (i := 1) rfl
  have hk2c2 := hk2.cell (i := 2) rfl
  have hk2c3 := hk2.cell (i := 3) rfl
  have hk2l := hk2.lt
  have hk2f0 := hk2.frozen 0
  have hk2f1 := hk2.frozen 1
  have hk2f2 := hk2.frozen 2
  have hk2f3 := hk2.frozen 3
  go_wp2_with fail
  clear hk10c0 hk10c1 hk10c2 hk10c3 hk10l hk2c0 hk2c1 hk2c2 hk2c3 hk2l hk2f0 hk2f1 hk2f2 hk2f3
  obtain ⟨ws10, hws10⟩ : ∃ x, x = (st4 w9 w.heap.size (.bool s_4) (.slice A_4 n_4 c_4) (.bool s_7) (.slice A_7 n_7 c_7)) := ⟨_, rfl⟩
  have h_4' := h_4.st4 hk2 (noU4 _ _ _ _ _ _ _ _) (.bool s_4) (.slice A_4 n_4 c_4) (.bool s_7) (.slice A_7 n_7 c_7)
  have h_7' := h_7.st4 hk2 (noU4 _ _ _ _ _ _ _ _) (.bool s_4) (.slice A_4 n_4 c_4) (.bool s_7) (.slice A_7 n_7 c_7)
  rw [← hws10] at h_4'
  clear h_4
  have h_4 := h_4'
  clear h_4'
  rw [← hws10] at h_7'
  clear h_7
  have h_7 := h_7'
  clear h_7'
  replace hupw := hupw.st4 (g := w.heap.size) (by omega) (.bool s_4) (.slice A_4 n_4 c_4) (.bool s_7) (.slice A_7 n_7 c_7)
  rw [← hws10] at hupw
  replace hk2 := hk2.four (.bool s_4) (.slice A_4 n_4 c_4) (.bool s_7) (.slice A_7 n_7 c_7)
  rw [← hws10] at hk2
  have hszws10 : ws10.heap.size = w9.heap.size := by rw [hws10]; simp [st4]
  unfold st4 at hws10
  rw [← hws10]
  clear hws10
  clear hszws10
  have hk2c0 := hk2.cell (i := 0) rfl
  have hk2c1 := hk2.cell (i := 1) rfl
  have hk2c2 := hk2.cell (i := 2) rfl
  have hk2c3 := hk2.cell (i := 3) rfl
  exact bodyPost_ret (v := .tuple #[.agg #[.bool s_4, .slice A_4 n_4 c_4, .bool s_7, .slice A_7 n_7 c_7], .int .i64 0]) (by simp [results, Tryz.results40, go_sem, hk2c0, hk2c1, hk2c2, hk2c3]) rfl ⟨_, rfl, Fz.mk h_4 h_7, hupw⟩
theorem sR_no {s : ByteArray} (h : hasB s = false) : sR s = ⟨#[49]⟩ := by unfold sR; rw [h]; rfl
theorem parseRQ {w : World} (s : ByteArray) (hs : s.size ≤ 999) (hp : Pow w) : Calls Tryz.prog 40 #[.string s] w (PR w (parsR s)) := by
  have hl : (sL s).size ≤ 1000 := by have := sL_size s; omega
  have hr : (sR s).size ≤ 1000 := by have := sR_size s; omega
  unfold parsR parsB
  cases hh : hasB s with
  | true =>
    have hc := fun W => scutY s W (by omega) hh
    cases hb : okS (sL s) with
    | false => exact (parst_1 s _ _ w hc hl hr hb).mono fun _ _ h => PR.of h (by simp; rfl)
    | true =>
      cases hb2 : okS (sR s) with
      | false => exact (parst_2 s _ _ w hc hl hr hb hb2).mono fun _ _ h => PR.of h (by simp; rfl)
      | true =>
        cases hq : lowB (valS (sL s)) (valS (sR s)) with
        | false => exact (parst_3 s _ _ w hc hl hr hb hb2 hq).mono fun _ _ h => PR.of h (by simp; rfl)
        | true =>
          by_cases hT : rtx (valS (sL s)) (valS (sR s)) = s
          · exact (parst_5 s _ _ w hp hc hl hr hb hb2 hq hT).mono fun _ _ h => PR.of h (by simp [hT])
          · exact (parst_4 _ s _ _ w hp hc hl hr hb hb2 hq rfl (ne_list hT)).mono fun _ _ h => PR.of h (by simp [hT]; rfl)
  | false =>
    have hc := fun W => scutN s W hh
    rw [sR_no hh] at hr ⊢
    cases hb : okS (sL s) with
    | false => exact (parsf_1 s _ w hc hl hb).mono fun _ _ h => PR.of h (by simp; rfl)
    | true =>
      cases hb2 : okS ⟨#[49]⟩ with
      | false => exact (parsf_2 s _ w hc hl hb hb2).mono fun _ _ h => PR.of h (by simp; rfl)
      | true =>
        cases hq : lowB (valS (sL s)) (valS ⟨#[49]⟩) with
        | false => exact (parsf_3 s _ w hc hl hb hb2 hq).mono fun _ _ h => PR.of h (by simp; rfl)
        | true =>
          by_cases hT : rtx (valS (sL s)) (valS ⟨#[49]⟩) = s
          · exact (parsf_5 s _ w hp hc hl hb hb2 hq hT).mono fun _ _ h => PR.of h (by simp [hT])
          · exact (parsf_4 _ s _ w hp hc hl hb hb2 hq rfl (ne_list hT)).mono fun _ _ h => PR.of h (by simp [hT]; rfl)

end Go.Proofs.YtldifgfpecicnaaGreatDoor
