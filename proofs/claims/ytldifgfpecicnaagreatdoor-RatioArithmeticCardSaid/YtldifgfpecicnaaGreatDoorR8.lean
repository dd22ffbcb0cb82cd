/- Fractions made of drafts. -/
import Derived.Test.YtldifgfpecicnaaGreatDoorRMd
namespace Go.Proofs.YtldifgfpecicnaaGreatDoor
open Go.RowKit

set_option maxRecDepth 100000 in
set_option maxHeartbeats 4000000 in
theorem made_0 {y z : Int} (v0 : Value) (w : World) (f0 : Gz w v0 (fun w v => Rd w v y) (fun w v => Rd w v z)) (hz : z.natAbs = 0) :
    Calls Tryz.prog 22 #[v0] w (PRz w (fr y 1)) := by
  obtain ⟨s0, A0, n0, c0, t0, B0, m0, d0, rfl, h0, k0⟩ := f0
  replace h0 : Rd w (.agg #[.bool s0, .slice A0 n0 c0]) y := h0
  replace k0 : Rd w (.agg #[.bool t0, .slice B0 m0 d0]) z := k0
  have hupw : Up w w := Up.refl w
  go_enter Tryz.func22, Tryz.ntmps22
  go_wp2_with fail
  obtain ⟨wa1, hwa1⟩ : ∃ x, x = ((w.alloc (.cells #[.bool s0, .slice A0 n0 c0, .bool t0, .slice B0 m0 d0] 39)).alloc (.cells #[.bool false, .slice none 0 0, .bool false, .slice none 0 0] 29)) := ⟨_, rfl⟩
  have hup : Up w wa1 := by rw [hwa1]; exact (((Up.refl w).alloc _).alloc _)
  have hzwa1 : w.heap.size ≤ w.heap.size := hupw.size
  replace h0 := h0.up hup
  replace k0 := k0.up hup
  replace hupw := hupw.trans hup
  clear hup
  have hk1 : Bk wa1 (w.heap.size) 39 #[.bool s0, .slice A0 n0 c0, .bool t0, .slice B0 m0 d0] := by
    have := ((Bk.new w 39 #[.bool s0, .slice A0 n0 c0, .bool t0, .slice B0 m0 d0]).alloc (.cells #[.bool false, .slice none 0 0, .bool false, .slice none 0 0] 29))
    rw [hwa1]; simpa using this
  have hk2 : Bk wa1 (w.heap.size + 1) 29 #[.bool false, .slice none 0 0, .bool false, .slice none 0 0] := by
    have := (Bk.new (w.alloc (.cells #[.bool s0, .slice A0 n0 c0, .bool t0, .slice B0 m0 d0] 39)) 29 #[.bool false, .slice none 0 0, .bool false, .slice none 0 0])
    rw [hwa1]; simpa using this
  rw [← hwa1]
  clear hwa1
  refine (madeZ k0).mono ?_
  rintro e w2 ⟨v_3, rfl, h_3, hup⟩
  replace hk1 := hk1.up hup
  replace hk2 := hk2.up hup
  replace h0 := h0.up hup
  replace hupw := hupw.trans hup
  clear hup
  obtain ⟨s_3, A_3, n_3, c_3, rfl⟩ := h_3.agg
  go_wp2_with fail
  refine (absQ h_3).mono ?_
  rintro e w4 ⟨v_5, rfl, h_5, hup⟩
  replace hk1 := hk1.up hup
  replace hk2 := hk2.up hup
  replace h0 := h0.up hup
  replace hupw := hupw.trans hup
  clear hup
  obtain ⟨s_5, A_5, n_5, c_5, rfl⟩ := h_5.agg
  go_wp2_with fail
  obtain ⟨wa6, hwa6⟩ : ∃ x, x = (w4.alloc (.cells #[.bool s_5, .slice A_5 n_5 c_5] 24)) := ⟨_, rfl⟩
  have hup : Up w4 wa6 := by rw [hwa6]; exact ((Up.refl w4).alloc _)
  have howa6 : (w.heap.size + 1) < w4.heap.size := hk2.lt
  have hzwa6 : w.heap.size ≤ w4.heap.size := hupw.size
  replace hk1 := hk1.up hup
  replace hk2 := hk2.up hup
  replace h0 := h0.up hup
  replace h_5 := h_5.up hup
  replace hupw := hupw.trans hup
  clear hup
  have hk3 : Bk wa6 (w4.heap.size) 24 #[.bool s_5, .slice A_5 n_5 c_5] := by
    have := (Bk.new w4 24 #[.bool s_5, .slice A_5 n_5 c_5])
    rw [hwa6]; simpa using this
  rw [← hwa6]
  clear hwa6
  refine (rsignQ 0 h_5 (by rw [hz]; rfl)).mono ?_
  rintro e w7 ⟨rfl, hup⟩
  replace hk1 := hk1.up hup
  replace hk2 := hk2.up hup
  replace hk3 := hk3.up hup
  replace h0 := h0.up hup
  replace hupw := hupw.trans hup
  clear hup
  go_wp2_with fail
  refine (rofQ 1 (by decide) (by decide)).mono ?_
  rintro e w8 ⟨v_9, rfl, h_9, hup⟩
  replace hk1 := hk1.up hup
  replace hk2 := hk2.up hup
  replace hk3 := hk3.up hup
  replace h0 := h0.up hup
  replace hupw := hupw.trans hup
  clear hup
  obtain ⟨s_9, A_9, n_9, c_9, rfl⟩ := h_9.agg
  have hk3c0 := hk3.cell (i := 0) rfl
  have hk3c1 := hk3.cell (i := 1) rfl
  have hk3l := hk3.lt
  have hk3f0 := hk3.frozen 0
  have hk3f1 := hk3.frozen 1
  go_wp2_with fail
  clear hk3c0 hk3c1 hk3l hk3f0 hk3f1
  obtain ⟨ws10, hws10⟩ : ∃ x, x = ((w8.setCell ⟨w4.heap.size, 0, none⟩ (.bool s_9)).setCell ⟨w4.heap.size, 1, none⟩ (.slice A_9 n_9 c_9)) := ⟨_, rfl⟩
  have h0' := h0.st2 hk3 (noU2 _ _ _ _) (.bool s_9) (.slice A_9 n_9 c_9)
  have h_9' := h_9.st2 hk3 (noU2 _ _ _ _) (.bool s_9) (.slice A_9 n_9 c_9)
  rw [← hws10] at h0'
  clear h0
  have h0 := h0'
  clear h0'
  rw [← hws10] at h_9'
  clear h_9
  have h_9 := h_9'
  clear h_9'
  replace hk1 := hk1.far2 (g' := w4.heap.size) (by omega) (.bool s_9) (.slice A_9 n_9 c_9)
  rw [← hws10] at hk1
  replace hk2 := hk2.far2 (g' := w4.heap.size) (by omega) (.bool s_9) (.slice A_9 n_9 c_9)
  rw [← hws10] at hk2
  replace hupw := hupw.two (g := w4.heap.size) (by omega) (.bool s_9) (.slice A_9 n_9 c_9)
  rw [← hws10] at hupw
  replace hk3 := hk3.two_bk (.bool s_9) (.slice A_9 n_9 c_9)
  rw [← hws10] at hk3
  have hszws10 : ws10.heap.size = w8.heap.size := by rw [hws10]; simp
  rw [← hws10]
  clear hws10
  clear hszws10
  refine region_inv (fun l a W => ∃ (b0 b1 b2 b3 b4 b5 b6 b7 b8 b9 b10 : Bool) (x4_0 x4_1 x4_2 x4_3 x4_4 x4_5 x4_6 x4_7 x4_8 x4_10 : Value), l = #[b0, b1, b2, b3, b4, b5, b6, b7, b8, b9, b10] ∧ a = { tmps := #[.agg #[.bool s0, .slice A0 n0 c0, .bool t0, .slice B0 m0 d0], .pointer (some ⟨w.heap.size, 0, none⟩), .pointer (some ⟨(w.heap.size + 1), 0, none⟩), .pointer (some ⟨w4.heap.size, 0, none⟩), x4_8, x4_10, .pointer (some ⟨w.heap.size, 2, none⟩), .agg #[.bool t0, .slice B0 m0 d0], .agg #[.bool s_3, .slice A_3 n_3 c_3], .agg #[.bool s_5, .slice A_5 n_5 c_5], .agg #[.bool s_5, .slice A_5 n_5 c_5], .int .i64 0, .bool true, .agg #[.bool s_9, .slice A_9 n_9 c_9], x4_5, x4_0, x4_1, x4_2, x4_3, x4_4, x4_6, x4_7, undef], defers := [] } ∧ Up ws10 W ∧ (b0 = true → x4_0 = .pointer (some ⟨w.heap.size, 0, none⟩)) ∧ (b1 = true → x4_1 = .agg #[.bool s0, .slice A0 n0 c0]) ∧ (b2 = true → Iz W x4_2 y) ∧ (b3 = true → x4_3 = .agg #[.bool s_9, .slice A_9 n_9 c_9]) ∧ (b4 = true → ∃ v0 : Value, x4_4 = .tuple #[v0, .int .i64 0] ∧ Rz W v0 (fr y 1)) ∧ (b5 = true → ∃ v0 : Value, x4_5 = .tuple #[v0, .int .i64 0] ∧ Rz W v0 (fr y 1)) ∧ (b6 = true → Rz W x4_6 (fr y 1)) ∧ (b7 = true → x4_7 = .int .i64 0) ∧ (b8 = true → B4 (ws10.heap.size) W x4_8 b9 x4_6) ∧ (b9 = true → b8 = true ∧ b6 = true) ∧ (b10 = true → x4_10 = .int .i64 0)) (by kernel_rfl) (by kernel_rfl) ?hs ?h0 ?hstep ?hQ
  case hs => rintro l a W ⟨b0, b1, b2, b3, b4, b5, b6, b7, b8, b9, b10, x4_0, x4_1, x4_2, x4_3, x4_4, x4_5, x4_6, x4_7, x4_8, x4_10, rfl, rfl, hup, hF0, hF1, hF2, hF3, hF4, hF5, hF6, hF7, hF8, hF9, hF10⟩; rfl
  case h0 => exact ⟨false, false, false, false, false, false, false, false, false, false, false, undef, undef, undef, undef, undef, undef, undef, undef, undef, undef, rfl, rfl, (Up.refl ws10).drew, (fun h => by cases h), (fun h => by cases h), (fun h => by cases h), (fun h => by cases h), (fun h => by cases h), (fun h => by cases h), (fun h => by cases h), (fun h => by cases h), (fun h => by cases h), (fun h => by cases h), (fun h => by cases h)⟩
  case hstep =>
    rintro l a W ⟨b0, b1, b2, b3, b4, b5, b6, b7, b8, b9, b10, x4_0, x4_1, x4_2, x4_3, x4_4, x4_5, x4_6, x4_7, x4_8, x4_10, rfl, rfl, hup, hF0, hF1, hF2, hF3, hF4, hF5, hF6, hF7, hF8, hF9, hF10⟩ i hi
    have hlt : i < 11 := ready_lt hi
    have HF0 := hide hF0
    have HF1 := hide hF1
    have HF2 := hide hF2
    have HF3 := hide hF3
    have HF4 := hide hF4
    have HF5 := hide hF5
    have HF6 := hide hF6
    have HF7 := hide hF7
    have HF8 := hide hF8
    have HF9 := hide hF9
    have HF10 := hide hF10
    clear hF0 hF1 hF2 hF3 hF4 hF5 hF6 hF7 hF8 hF9 hF10
    have hcase : i = 0 ∨ i = 1 ∨ i = 2 ∨ i = 3 ∨ i = 4 ∨ i = 5 ∨ i = 6 ∨ i = 7 ∨ i = 8 ∨ i = 9 ∨ i = 10 := by omega
    clear hlt
    rcases hcase with rfl | rfl | rfl | rfl | rfl | rfl | rfl | rfl | rfl | rfl | rfl
    · skip
      clear hi
      refine wpOp_step rfl (fun K hK => ?_)
      go_simp
      refine hK _ _ ?_
      clear hK K
      exact ⟨true, b1, b2, b3, b4, b5, b6, b7, b8, b9, b10, .pointer (some ⟨w.heap.size, 0, none⟩), x4_1, x4_2, x4_3, x4_4, x4_5, x4_6, x4_7, x4_8, x4_10, rfl, rfl, hup, (fun _ => rfl), HF1.out, HF2.out, HF3.out, HF4.out, HF5.out, HF6.out, HF7.out, HF8.out, HF9.out, HF10.out⟩
    · skip
      have kc0 := (hk1.up hup).cell (i := 0) rfl
      have kc1 := (hk1.up hup).cell (i := 1) rfl
      have hb : b0 = true := getB (l := [b0, b1, b2, b3, b4, b5, b6, b7, b8, b9, b10]) (ready_dep hi rfl 0 (by kernel_rfl)) rfl
      have hx := HF0.out hb
      clear hb
      subst hx
      clear hi
      refine wpOp_step rfl (fun K hK => ?_)
      go_simp
      refine hK _ _ ?_
      clear hK K
      exact ⟨b0, true, b2, b3, b4, b5, b6, b7, b8, b9, b10, .pointer (some ⟨w.heap.size, 0, none⟩), .agg #[.bool s0, .slice A0 n0 c0], x4_2, x4_3, x4_4, x4_5, x4_6, x4_7, x4_8, x4_10, rfl, rfl, hup, (fun _ => rfl), (fun _ => rfl), HF2.out, HF3.out, HF4.out, HF5.out, HF6.out, HF7.out, HF8.out, HF9.out, HF10.out⟩
    · skip
      have hb : b1 = true := getB (l := [b0, b1, b2, b3, b4, b5, b6, b7, b8, b9, b10]) (ready_dep hi rfl 1 (by kernel_rfl)) rfl
      have hx := HF1.out hb
      clear hb
      subst hx
      clear hi
      refine wpOp_step rfl (fun K hK => ?_)
      go_simp
      refine (madeZ (h0.up hup)).mono ?_
      rintro e w1 ⟨v1, rfl, hv1, hup1⟩
      go_wp2_with fail
      exact ⟨b0, b1, true, b3, b4, b5, b6, b7, b8, b9, b10, x4_0, .agg #[.bool s0, .slice A0 n0 c0], v1, x4_3, x4_4, x4_5, x4_6, x4_7, x4_8, x4_10, rfl, rfl, hup.trans hup1, HF0.out, (fun _ => rfl), (fun _ => hv1), HF3.out, (fun h => by obtain ⟨q0, rq, r0⟩ := HF4.out h; exact ⟨q0, rq, r0.up hup1⟩), (fun h => by obtain ⟨q0, rq, r0⟩ := HF5.out h; exact ⟨q0, rq, r0.up hup1⟩), (fun h => (HF6.out h).up hup1), HF7.out, (fun h => (HF8.out h).up hup1), HF9.out, HF10.out⟩
    · skip
      have kc0 := (hk3.up hup).cell (i := 0) rfl
      have kc1 := (hk3.up hup).cell (i := 1) rfl
      clear hi
      refine wpOp_step rfl (fun K hK => ?_)
      go_simp
      refine hK _ _ ?_
      clear hK K
      exact ⟨b0, b1, b2, true, b4, b5, b6, b7, b8, b9, b10, x4_0, x4_1, x4_2, .agg #[.bool s_9, .slice A_9 n_9 c_9], x4_4, x4_5, x4_6, x4_7, x4_8, x4_10, rfl, rfl, hup, HF0.out, HF1.out, HF2.out, (fun _ => rfl), HF4.out, HF5.out, HF6.out, HF7.out, HF8.out, HF9.out, HF10.out⟩
    · skip
      have hb0q : b2 = true := getB (l := [b0, b1, b2, b3, b4, b5, b6, b7, b8, b9, b10]) (ready_dep hi rfl 2 (by kernel_rfl)) rfl
      have hx0 := hide (HF2.out hb0q)
      clear hb0q
      have hb : b3 = true := getB (l := [b0, b1, b2, b3, b4, b5, b6, b7, b8, b9, b10]) (ready_dep hi rfl 3 (by kernel_rfl)) rfl
      have hx := HF3.out hb
      clear hb
      subst hx
      clear hi
      refine wpOp_step rfl (fun K hK => ?_)
      go_simp
      refine (rmakeZ hx0.out (h_9.up hup) (by decide)).mono ?_
      rintro e w1 ⟨v0, rfl, hv0, hup1⟩
      go_wp2_with fail
      exact ⟨b0, b1, b2, b3, true, b5, b6, b7, b8, b9, b10, x4_0, x4_1, x4_2, .agg #[.bool s_9, .slice A_9 n_9 c_9], .tuple #[v0, .int .i64 0], x4_5, x4_6, x4_7, x4_8, x4_10, rfl, rfl, hup.trans hup1, HF0.out, HF1.out, (fun h => (HF2.out h).up hup1), (fun _ => rfl), (fun _ => ⟨v0, rfl, hv0⟩), (fun h => by obtain ⟨q0, rq, r0⟩ := HF5.out h; exact ⟨q0, rq, r0.up hup1⟩), (fun h => (HF6.out h).up hup1), HF7.out, (fun h => (HF8.out h).up hup1), HF9.out, HF10.out⟩
    · skip
      have hb : b4 = true := getB (l := [b0, b1, b2, b3, b4, b5, b6, b7, b8, b9, b10]) (ready_dep hi rfl 4 (by kernel_rfl)) rfl
      have hx := hide (HF4.out hb)
      clear hb
      clear hi
      refine wpOp_step rfl (fun K hK => ?_)
      go_simp
      refine hK _ _ ?_
      clear hK K
      exact ⟨b0, b1, b2, b3, b4, true, b6, b7, b8, b9, b10, x4_0, x4_1, x4_2, x4_3, x4_4, x4_4, x4_6, x4_7, x4_8, x4_10, rfl, rfl, hup, HF0.out, HF1.out, HF2.out, HF3.out, HF4.out, (fun _ => hx.out), HF6.out, HF7.out, HF8.out, HF9.out, HF10.out⟩
    · skip
      have hb : b5 = true := getB (l := [b0, b1, b2, b3, b4, b5, b6, b7, b8, b9, b10]) (ready_dep hi rfl 5 (by kernel_rfl)) rfl
      have Hb := hide hb
      obtain ⟨v0, hxe, hv0⟩ := HF5.out hb
      clear hb
      subst hxe
      have hn := ready_not hi
      have hst9 : b9 = false := by
        cases e : b9 with
        | false => rfl
        | true => have h5 := (HF9.out e).2; rw [h5] at hn; cases hn
      have Hst9 := hide hst9
      clear hst9
      clear hn
      clear hi
      refine wpOp_step rfl (fun K hK => ?_)
      go_simp
      refine hK _ _ ?_
      clear hK K
      exact ⟨b0, b1, b2, b3, b4, b5, true, b7, b8, b9, b10, x4_0, x4_1, x4_2, x4_3, x4_4, .tuple #[v0, .int .i64 0], v0, x4_7, x4_8, x4_10, rfl, rfl, hup, HF0.out, HF1.out, HF2.out, HF3.out, HF4.out, HF5.out, (fun _ => hv0), HF7.out, (fun h => ((HF8.out h).up (Up.refl _)).unfilled Hst9.out _), (fun h => ⟨(HF9.out h).1, rfl⟩), HF10.out⟩
    · skip
      have hb : b5 = true := getB (l := [b0, b1, b2, b3, b4, b5, b6, b7, b8, b9, b10]) (ready_dep hi rfl 5 (by kernel_rfl)) rfl
      have Hb := hide hb
      obtain ⟨v0, hxe, hv0⟩ := HF5.out hb
      clear hb
      subst hxe
      clear hi
      refine wpOp_step rfl (fun K hK => ?_)
      go_simp
      refine hK _ _ ?_
      clear hK K
      exact ⟨b0, b1, b2, b3, b4, b5, b6, true, b8, b9, b10, x4_0, x4_1, x4_2, x4_3, x4_4, .tuple #[v0, .int .i64 0], x4_6, .int .i64 0, x4_8, x4_10, rfl, rfl, hup, HF0.out, HF1.out, HF2.out, HF3.out, HF4.out, HF5.out, HF6.out, (fun _ => rfl), HF8.out, HF9.out, HF10.out⟩
    · skip
      have hn := ready_not hi
      have hst9 : b9 = false := by
        cases e : b9 with
        | false => rfl
        | true => have h5 := (HF9.out e).1; rw [h5] at hn; cases hn
      have Hst9 := hide hst9
      clear hst9
      clear hn
      clear hi
      have hsz := hup.size
      have hupA := (Up.refl W).alloc (.cells #[.bool false, .slice none 0 0, .bool false, .slice none 0 0] 29)
      refine wpOp_step rfl (fun K hK => ?_)
      go_simp
      refine hK _ _ ?_
      clear hK K
      exact ⟨b0, b1, b2, b3, b4, b5, b6, b7, true, b9, b10, x4_0, x4_1, x4_2, x4_3, x4_4, x4_5, x4_6, x4_7, .pointer (some ⟨W.heap.size, 0, none⟩), x4_10, rfl, rfl, hup.trans hupA, HF0.out, HF1.out, (fun h => (HF2.out h).up hupA), HF3.out, (fun h => by obtain ⟨q0, rq, r0⟩ := HF4.out h; exact ⟨q0, rq, r0.up hupA⟩), (fun h => by obtain ⟨q0, rq, r0⟩ := HF5.out h; exact ⟨q0, rq, r0.up hupA⟩), (fun h => (HF6.out h).up hupA), HF7.out, (fun _ => by rw [Hst9.out]; exact B4.new _ W _ hsz), (fun h => ⟨rfl, (HF9.out h).2⟩), HF10.out⟩
    · skip
      have hb2 : b8 = true := getB (l := [b0, b1, b2, b3, b4, b5, b6, b7, b8, b9, b10]) (ready_dep hi rfl 8 (by kernel_rfl)) rfl
      have hb1 : b6 = true := getB (l := [b0, b1, b2, b3, b4, b5, b6, b7, b8, b9, b10]) (ready_dep hi rfl 6 (by kernel_rfl)) rfl
      clear hi
      obtain ⟨s9, A9, n9, c9, t9, C9, m9, d9, hxc⟩ := (HF6.out hb1).agg4
      subst hxc
      obtain ⟨g, s8, A8, n8, c8, t8, C8, m8, d8, hxb, hgB, hbk, _⟩ := HF8.out hb2
      subst hxb
      have f0 := hbk.cell (i := 0) rfl
      have z0 := hbk.frozen 0
      have f1 := hbk.cell (i := 1) rfl
      have z1 := hbk.frozen 1
      have f2 := hbk.cell (i := 2) rfl
      have z2 := hbk.frozen 2
      have f3 := hbk.cell (i := 3) rfl
      have z3 := hbk.frozen 3
      have Hb1 := hide hb1
      have Hb2 := hide hb2
      have hsz := hup.size
      clear hb1 hb2
      refine wpOp_step rfl (fun K hK => ?_)
      go_simp
      refine hK _ _ ?_
      clear hK K
      exact ⟨b0, b1, b2, b3, b4, b5, b6, b7, b8, true, b10, x4_0, x4_1, x4_2, x4_3, x4_4, x4_5, .agg #[.bool s9, .slice A9 n9 c9, .bool t9, .slice C9 m9 d9], x4_7, .pointer (some ⟨g, 0, none⟩), x4_10, rfl, rfl, hup.st4 (g := g) hgB _ _ _ _, HF0.out, HF1.out, (fun h => (HF2.out h).st4 hbk (noU4 _ _ _ _ _ _ _ _) _ _ _ _), HF3.out, (fun h => by obtain ⟨q0, rq, r0⟩ := HF4.out h; exact ⟨q0, rq, r0.st4 hbk (noU4 _ _ _ _ _ _ _ _) _ _ _ _⟩), (fun h => by obtain ⟨q0, rq, r0⟩ := HF5.out h; exact ⟨q0, rq, r0.st4 hbk (noU4 _ _ _ _ _ _ _ _) _ _ _ _⟩), (fun h => (HF6.out h).st4 hbk (noU4 _ _ _ _ _ _ _ _) _ _ _ _), HF7.out, (fun _ => hbk.fill4 hgB), (fun _ => ⟨Hb2.out, Hb1.out⟩), HF10.out⟩
    · skip
      have hb : b7 = true := getB (l := [b0, b1, b2, b3, b4, b5, b6, b7, b8, b9, b10]) (ready_dep hi rfl 7 (by kernel_rfl)) rfl
      have hx := hide (HF7.out hb)
      clear hb
      clear hi
      refine wpOp_step rfl (fun K hK => ?_)
      go_simp
      refine hK _ _ ?_
      clear hK K
      exact ⟨b0, b1, b2, b3, b4, b5, b6, b7, b8, b9, true, x4_0, x4_1, x4_2, x4_3, x4_4, x4_5, x4_6, x4_7, x4_8, x4_7, rfl, rfl, hup, HF0.out, HF1.out, HF2.out, HF3.out, HF4.out, HF5.out, HF6.out, HF7.out, HF8.out, HF9.out, (fun _ => hx.out)⟩
  case hQ =>
    rintro l a W4_ ⟨b0, b1, b2, b3, b4, b5, b6, b7, b8, b9, b10, x4_0, x4_1, x4_2, x4_3, x4_4, x4_5, x4_6, x4_7, x4_8, x4_10, rfl, rfl, hup, hF0, hF1, hF2, hF3, hF4, hF5, hF6, hF7, hF8, hF9, hF10⟩ hall
    have hb0 : b0 = true := getB (l := [b0, b1, b2, b3, b4, b5, b6, b7, b8, b9, b10]) (hall 0 (by decide)) rfl
    have hb1 : b1 = true := getB (l := [b0, b1, b2, b3, b4, b5, b6, b7, b8, b9, b10]) (hall 1 (by decide)) rfl
    have hb2 : b2 = true := getB (l := [b0, b1, b2, b3, b4, b5, b6, b7, b8, b9, b10]) (hall 2 (by decide)) rfl
    have hb3 : b3 = true := getB (l := [b0, b1, b2, b3, b4, b5, b6, b7, b8, b9, b10]) (hall 3 (by decide)) rfl
    have hb4 : b4 = true := getB (l := [b0, b1, b2, b3, b4, b5, b6, b7, b8, b9, b10]) (hall 4 (by decide)) rfl
    have hb5 : b5 = true := getB (l := [b0, b1, b2, b3, b4, b5, b6, b7, b8, b9, b10]) (hall 5 (by decide)) rfl
    have hb6 : b6 = true := getB (l := [b0, b1, b2, b3, b4, b5, b6, b7, b8, b9, b10]) (hall 6 (by decide)) rfl
    have hb7 : b7 = true := getB (l := [b0, b1, b2, b3, b4, b5, b6, b7, b8, b9, b10]) (hall 7 (by decide)) rfl
    have hb8 : b8 = true := getB (l := [b0, b1, b2, b3, b4, b5, b6, b7, b8, b9, b10]) (hall 8 (by decide)) rfl
    have hb9 : b9 = true := getB (l := [b0, b1, b2, b3, b4, b5, b6, b7, b8, b9, b10]) (hall 9 (by decide)) rfl
    have hb10 : b10 = true := getB (l := [b0, b1, b2, b3, b4, b5, b6, b7, b8, b9, b10]) (hall 10 (by decide)) rfl
    subst hb0 hb1 hb2 hb3 hb4 hb5 hb6 hb7 hb8 hb9 hb10
    clear hall
    have m0 := hF0 rfl
    have m1 := hF1 rfl
    have m2 := hF2 rfl
    have m3 := hF3 rfl
    have m4 := hF4 rfl
    have m5 := hF5 rfl
    have m6 := hF6 rfl
    have m7 := hF7 rfl
    have m8 := hF8 rfl
    have m10 := hF10 rfl
    clear hF0 hF1 hF2 hF3 hF4 hF5 hF6 hF7 hF8 hF9 hF10
    have hzI4 : w.heap.size ≤ ws10.heap.size := hupw.size
    have hoI4 : w4.heap.size < ws10.heap.size := hk3.lt
    replace hk2 := hk2.up hup
    replace hupw := hupw.trans hup
    clear hup
    obtain ⟨g4_8, s4_8, A4_8, n4_8, c4_8, t4_8, C4_8, m4_8, d4_8, rfl, hg4_8, hk4_8, he4_8⟩ := m8
    obtain rfl := he4_8 rfl
    clear he4_8
    have h4_8 := m6
    obtain rfl := m0
    obtain rfl := m1
    obtain rfl := m3
    obtain rfl := m7
    obtain rfl := m10
    have hk4_8c0 := hk4_8.cell (i := 0) rfl
    have hk4_8c1 := hk4_8.cell (i := 1) rfl
    have hk4_8c2 := hk4_8.cell (i := 2) rfl
    have hk4_8c3 := hk4_8.cell (i := 3) rfl
    have hk4_8l := hk4_8.lt
    have hk2c0 := hk2.cell (i := 0) rfl
    have hk2c1 := hk2.cell (i := 1) rfl
    have hk2c2 := hk2.cell (i := 2) rfl
    have hk2c3 := hk2.cell (i := 3) rfl
    have hk2l := hk2.lt
    have hk2f0 := hk2.frozen 0
    have hk2f1 := hk2.frozen 1
    have hk2f2 := hk2.frozen 2
    have hk2f3 := hk2.frozen 3
    go_wp2_with fail
    clear hk4_8c0 hk4_8c1 hk4_8c2 hk4_8c3 hk4_8l hk2c0 hk2c1 hk2c2 hk2c3 hk2l hk2f0 hk2f1 hk2f2 hk2f3
    obtain ⟨ws11, hws11⟩ : ∃ x, x = (st4 W4_ (w.heap.size + 1) (.bool s4_8) (.slice A4_8 n4_8 c4_8) (.bool t4_8) (.slice C4_8 m4_8 d4_8)) := ⟨_, rfl⟩
    have h4_8' := h4_8.st4 hk2 (noU4 _ _ _ _ _ _ _ _) (.bool s4_8) (.slice A4_8 n4_8 c4_8) (.bool t4_8) (.slice C4_8 m4_8 d4_8)
    rw [← hws11] at h4_8'
    clear h4_8
    have h4_8 := h4_8'
    clear h4_8'
    replace hupw := hupw.st4 (g := (w.heap.size + 1)) (by omega) (.bool s4_8) (.slice A4_8 n4_8 c4_8) (.bool t4_8) (.slice C4_8 m4_8 d4_8)
    rw [← hws11] at hupw
    replace hk2 := hk2.four (.bool s4_8) (.slice A4_8 n4_8 c4_8) (.bool t4_8) (.slice C4_8 m4_8 d4_8)
    rw [← hws11] at hk2
    have hszws11 : ws11.heap.size = W4_.heap.size := by rw [hws11]; simp [st4]
    unfold st4 at hws11
    rw [← hws11]
    clear hws11
    clear hszws11
    have hk2c0 := hk2.cell (i := 0) rfl
    have hk2c1 := hk2.cell (i := 1) rfl
    have hk2c2 := hk2.cell (i := 2) rfl
    have hk2c3 := hk2.cell (i := 3) rfl
    exact bodyPost_ret (v := .agg #[.bool s4_8, .slice A4_8 n4_8 c4_8, .bool t4_8, .slice C4_8 m4_8 d4_8]) (by simp [results, Tryz.results22, go_sem, hk2c0, hk2c1, hk2c2, hk2c3]) rfl ⟨_, rfl, h4_8, hupw⟩
set_option maxRecDepth 100000 in
set_option maxHeartbeats 4000000 in
theorem made_1 {y z : Int} (v0 : Value) (w : World) (f0 : Gz w v0 (fun w v => Rd w v y) (fun w v => Rd w v z)) (hz : 0 < z.natAbs) :
    Calls Tryz.prog 22 #[v0] w (PRz w (fr y (z.natAbs : Int))) := by
  obtain ⟨s0, A0, n0, c0, t0, B0, m0, d0, rfl, h0, k0⟩ := f0
  replace h0 : Rd w (.agg #[.bool s0, .slice A0 n0 c0]) y := h0
  replace k0 : Rd w (.agg #[.bool t0, .slice B0 m0 d0]) z := k0
  have hupw : Up w w := Up.refl w
  go_enter Tryz.func22, Tryz.ntmps22
  go_wp2_with fail
  obtain ⟨wa1, hwa1⟩ : ∃ x, x = ((w.alloc (.cells #[.bool s0, .slice A0 n0 c0, .bool t0, .slice B0 m0 d0] 39)).alloc (.cells #[.bool false, .slice none 0 0, .bool false, .slice none 0 0] 29)) := ⟨_, rfl⟩
  have hup : Up w wa1 := by rw [hwa1]; exact (((Up.refl w).alloc _).alloc _)
  have hzwa1 : w.heap.size ≤ w.heap.size := hupw.size
  replace h0 := h0.up hup
  replace k0 := k0.up hup
  replace hupw := hupw.trans hup
  clear hup
  have hk1 : Bk wa1 (w.heap.size) 39 #[.bool s0, .slice A0 n0 c0, .bool t0, .slice B0 m0 d0] := by
    have := ((Bk.new w 39 #[.bool s0, .slice A0 n0 c0, .bool t0, .slice B0 m0 d0]).alloc (.cells #[.bool false, .slice none 0 0, .bool false, .slice none 0 0] 29))
    rw [hwa1]; simpa using this
  have hk2 : Bk wa1 (w.heap.size + 1) 29 #[.bool false, .slice none 0 0, .bool false, .slice none 0 0] := by
    have := (Bk.new (w.alloc (.cells #[.bool s0, .slice A0 n0 c0, .bool t0, .slice B0 m0 d0] 39)) 29 #[.bool false, .slice none 0 0, .bool false, .slice none 0 0])
    rw [hwa1]; simpa using this
  rw [← hwa1]
  clear hwa1
  refine (madeZ k0).mono ?_
  rintro e w2 ⟨v_3, rfl, h_3, hup⟩
  replace hk1 := hk1.up hup
  replace hk2 := hk2.up hup
  replace h0 := h0.up hup
  replace hupw := hupw.trans hup
  clear hup
  obtain ⟨s_3, A_3, n_3, c_3, rfl⟩ := h_3.agg
  go_wp2_with fail
  refine (absQ h_3).mono ?_
  rintro e w4 ⟨v_5, rfl, h_5, hup⟩
  replace hk1 := hk1.up hup
  replace hk2 := hk2.up hup
  replace h0 := h0.up hup
  replace hupw := hupw.trans hup
  clear hup
  obtain ⟨s_5, A_5, n_5, c_5, rfl⟩ := h_5.agg
  go_wp2_with fail
  obtain ⟨wa6, hwa6⟩ : ∃ x, x = (w4.alloc (.cells #[.bool s_5, .slice A_5 n_5 c_5] 24)) := ⟨_, rfl⟩
  have hup : Up w4 wa6 := by rw [hwa6]; exact ((Up.refl w4).alloc _)
  have howa6 : (w.heap.size + 1) < w4.heap.size := hk2.lt
  have hzwa6 : w.heap.size ≤ w4.heap.size := hupw.size
  replace hk1 := hk1.up hup
  replace hk2 := hk2.up hup
  replace h0 := h0.up hup
  replace h_5 := h_5.up hup
  replace hupw := hupw.trans hup
  clear hup
  have hk3 : Bk wa6 (w4.heap.size) 24 #[.bool s_5, .slice A_5 n_5 c_5] := by
    have := (Bk.new w4 24 #[.bool s_5, .slice A_5 n_5 c_5])
    rw [hwa6]; simpa using this
  rw [← hwa6]
  clear hwa6
  refine (rsignQ 1 h_5 (Int.sign_eq_one_of_pos (by omega))).mono ?_
  rintro e w7 ⟨rfl, hup⟩
  replace hk1 := hk1.up hup
  replace hk2 := hk2.up hup
  replace hk3 := hk3.up hup
  replace h0 := h0.up hup
  replace h_5 := h_5.up hup
  replace hupw := hupw.trans hup
  clear hup
  go_wp2_with fail
  refine region_inv (fun l a W => ∃ (b0 b1 b2 b3 b4 b5 b6 b7 b8 b9 b10 : Bool) (x4_0 x4_1 x4_2 x4_3 x4_4 x4_5 x4_6 x4_7 x4_8 x4_10 : Value), l = #[b0, b1, b2, b3, b4, b5, b6, b7, b8, b9, b10] ∧ a = { tmps := #[.agg #[.bool s0, .slice A0 n0 c0, .bool t0, .slice B0 m0 d0], .pointer (some ⟨w.heap.size, 0, none⟩), .pointer (some ⟨(w.heap.size + 1), 0, none⟩), .pointer (some ⟨w4.heap.size, 0, none⟩), x4_8, x4_10, .pointer (some ⟨w.heap.size, 2, none⟩), .agg #[.bool t0, .slice B0 m0 d0], .agg #[.bool s_3, .slice A_3 n_3 c_3], .agg #[.bool s_5, .slice A_5 n_5 c_5], .agg #[.bool s_5, .slice A_5 n_5 c_5], .int .i64 1, .bool false, undef, x4_5, x4_0, x4_1, x4_2, x4_3, x4_4, x4_6, x4_7, undef], defers := [] } ∧ Up w7 W ∧ (b0 = true → x4_0 = .pointer (some ⟨w.heap.size, 0, none⟩)) ∧ (b1 = true → x4_1 = .agg #[.bool s0, .slice A0 n0 c0]) ∧ (b2 = true → Iz W x4_2 y) ∧ (b3 = true → x4_3 = .agg #[.bool s_5, .slice A_5 n_5 c_5]) ∧ (b4 = true → ∃ v0 : Value, x4_4 = .tuple #[v0, .int .i64 0] ∧ Rz W v0 (fr y (z.natAbs : Int))) ∧ (b5 = true → ∃ v0 : Value, x4_5 = .tuple #[v0, .int .i64 0] ∧ Rz W v0 (fr y (z.natAbs : Int))) ∧ (b6 = true → Rz W x4_6 (fr y (z.natAbs : Int))) ∧ (b7 = true → x4_7 = .int .i64 0) ∧ (b8 = true → B4 (w7.heap.size) W x4_8 b9 x4_6) ∧ (b9 = true → b8 = true ∧ b6 = true) ∧ (b10 = true → x4_10 = .int .i64 0)) (by kernel_rfl) (by kernel_rfl) ?hs ?h0 ?hstep ?hQ
  case hs => rintro l a W ⟨b0, b1, b2, b3, b4, b5, b6, b7, b8, b9, b10, x4_0, x4_1, x4_2, x4_3, x4_4, x4_5, x4_6, x4_7, x4_8, x4_10, rfl, rfl, hup, hF0, hF1, hF2, hF3, hF4, hF5, hF6, hF7, hF8, hF9, hF10⟩; rfl
  case h0 => exact ⟨false, false, false, false, false, false, false, false, false, false, false, undef, undef, undef, undef, undef, undef, undef, undef, undef, undef, rfl, rfl, (Up.refl w7).drew, (fun h => by cases h), (fun h => by cases h), (fun h => by cases h), (fun h => by cases h), (fun h => by cases h), (fun h => by cases h), (fun h => by cases h), (fun h => by cases h), (fun h => by cases h), (fun h => by cases h), (fun h => by cases h)⟩
  case hstep =>
    rintro l a W ⟨b0, b1, b2, b3, b4, b5, b6, b7, b8, b9, b10, x4_0, x4_1, x4_2, x4_3, x4_4, x4_5, x4_6, x4_7, x4_8, x4_10, rfl, rfl, hup, hF0, hF1, hF2, hF3, hF4, hF5, hF6, hF7, hF8, hF9, hF10⟩ i hi
    have hlt : i < 11 := ready_lt hi
    have HF0 := hide hF0
    have HF1 := hide hF1
    have HF2 := hide hF2
    have HF3 := hide hF3
    have HF4 := hide hF4
    have HF5 := hide hF5
    have HF6 := hide hF6
    have HF7 := hide hF7
    have HF8 := hide hF8
    have HF9 := hide hF9
    have HF10 := hide hF10
    clear hF0 hF1 hF2 hF3 hF4 hF5 hF6 hF7 hF8 hF9 hF10
    have hcase : i = 0 ∨ i = 1 ∨ i = 2 ∨ i = 3 ∨ i = 4 ∨ i = 5 ∨ i = 6 ∨ i = 7 ∨ i = 8 ∨ i = 9 ∨ i = 10 := by omega
    clear hlt
    rcases hcase with rfl | rfl | rfl | rfl | rfl | rfl | rfl | rfl | rfl | rfl | rfl
    · skip
      clear hi
      refine wpOp_step rfl (fun K hK => ?_)
      go_simp
      refine hK _ _ ?_
      clear hK K
      exact ⟨true, b1, b2, b3, b4, b5, b6, b7, b8, b9, b10, .pointer (some ⟨w.heap.size, 0, none⟩), x4_1, x4_2, x4_3, x4_4, x4_5, x4_6, x4_7, x4_8, x4_10, rfl, rfl, hup, (fun _ => rfl), HF1.out, HF2.out, HF3.out, HF4.out, HF5.out, HF6.out, HF7.out, HF8.out, HF9.out, HF10.out⟩
    · skip
      have kc0 := (hk1.up hup).cell (i := 0) rfl
      have kc1 := (hk1.up hup).cell (i := 1) rfl
      have hb : b0 = true := getB (l := [b0, b1, b2, b3, b4, b5, b6, b7, b8, b9, b10]) (ready_dep hi rfl 0 (by kernel_rfl)) rfl
      have hx := HF0.out hb
      clear hb
      subst hx
      clear hi
      refine wpOp_step rfl (fun K hK => ?_)
      go_simp
      refine hK _ _ ?_
      clear hK K
      exact ⟨b0, true, b2, b3, b4, b5, b6, b7, b8, b9, b10, .pointer (some ⟨w.heap.size, 0, none⟩), .agg #[.bool s0, .slice A0 n0 c0], x4_2, x4_3, x4_4, x4_5, x4_6, x4_7, x4_8, x4_10, rfl, rfl, hup, (fun _ => rfl), (fun _ => rfl), HF2.out, HF3.out, HF4.out, HF5.out, HF6.out, HF7.out, HF8.out, HF9.out, HF10.out⟩
    · skip
      have hb : b1 = true := getB (l := [b0, b1, b2, b3, b4, b5, b6, b7, b8, b9, b10]) (ready_dep hi rfl 1 (by kernel_rfl)) rfl
      have hx := HF1.out hb
      clear hb
      subst hx
      clear hi
      refine wpOp_step rfl (fun K hK => ?_)
      go_simp
      refine (madeZ (h0.up hup)).mono ?_
      rintro e w1 ⟨v1, rfl, hv1, hup1⟩
      go_wp2_with fail
      exact ⟨b0, b1, true, b3, b4, b5, b6, b7, b8, b9, b10, x4_0, .agg #[.bool s0, .slice A0 n0 c0], v1, x4_3, x4_4, x4_5, x4_6, x4_7, x4_8, x4_10, rfl, rfl, hup.trans hup1, HF0.out, (fun _ => rfl), (fun _ => hv1), HF3.out, (fun h => by obtain ⟨q0, rq, r0⟩ := HF4.out h; exact ⟨q0, rq, r0.up hup1⟩), (fun h => by obtain ⟨q0, rq, r0⟩ := HF5.out h; exact ⟨q0, rq, r0.up hup1⟩), (fun h => (HF6.out h).up hup1), HF7.out, (fun h => (HF8.out h).up hup1), HF9.out, HF10.out⟩
    · skip
      have kc0 := (hk3.up hup).cell (i := 0) rfl
      have kc1 := (hk3.up hup).cell (i := 1) rfl
      clear hi
      refine wpOp_step rfl (fun K hK => ?_)
      go_simp
      refine hK _ _ ?_
      clear hK K
      exact ⟨b0, b1, b2, true, b4, b5, b6, b7, b8, b9, b10, x4_0, x4_1, x4_2, .agg #[.bool s_5, .slice A_5 n_5 c_5], x4_4, x4_5, x4_6, x4_7, x4_8, x4_10, rfl, rfl, hup, HF0.out, HF1.out, HF2.out, (fun _ => rfl), HF4.out, HF5.out, HF6.out, HF7.out, HF8.out, HF9.out, HF10.out⟩
    · skip
      have hb0q : b2 = true := getB (l := [b0, b1, b2, b3, b4, b5, b6, b7, b8, b9, b10]) (ready_dep hi rfl 2 (by kernel_rfl)) rfl
      have hx0 := hide (HF2.out hb0q)
      clear hb0q
      have hb : b3 = true := getB (l := [b0, b1, b2, b3, b4, b5, b6, b7, b8, b9, b10]) (ready_dep hi rfl 3 (by kernel_rfl)) rfl
      have hx := HF3.out hb
      clear hb
      subst hx
      clear hi
      refine wpOp_step rfl (fun K hK => ?_)
      go_simp
      refine (rmakeZ hx0.out (h_5.up hup) (by omega)).mono ?_
      rintro e w1 ⟨v0, rfl, hv0, hup1⟩
      go_wp2_with fail
      exact ⟨b0, b1, b2, b3, true, b5, b6, b7, b8, b9, b10, x4_0, x4_1, x4_2, .agg #[.bool s_5, .slice A_5 n_5 c_5], .tuple #[v0, .int .i64 0], x4_5, x4_6, x4_7, x4_8, x4_10, rfl, rfl, hup.trans hup1, HF0.out, HF1.out, (fun h => (HF2.out h).up hup1), (fun _ => rfl), (fun _ => ⟨v0, rfl, hv0⟩), (fun h => by obtain ⟨q0, rq, r0⟩ := HF5.out h; exact ⟨q0, rq, r0.up hup1⟩), (fun h => (HF6.out h).up hup1), HF7.out, (fun h => (HF8.out h).up hup1), HF9.out, HF10.out⟩
    · skip
      have hb : b4 = true := getB (l := [b0, b1, b2, b3, b4, b5, b6, b7, b8, b9, b10]) (ready_dep hi rfl 4 (by kernel_rfl)) rfl
      have hx := hide (HF4.out hb)
      clear hb
      clear hi
      refine wpOp_step rfl (fun K hK => ?_)
      go_simp
      refine hK _ _ ?_
      clear hK K
      exact ⟨b0, b1, b2, b3, b4, true, b6, b7, b8, b9, b10, x4_0, x4_1, x4_2, x4_3, x4_4, x4_4, x4_6, x4_7, x4_8, x4_10, rfl, rfl, hup, HF0.out, HF1.out, HF2.out, HF3.out, HF4.out, (fun _ => hx.out), HF6.out, HF7.out, HF8.out, HF9.out, HF10.out⟩
    · skip
      have hb : b5 = true := getB (l := [b0, b1, b2, b3, b4, b5, b6, b7, b8, b9, b10]) (ready_dep hi rfl 5 (by kernel_rfl)) rfl
      have Hb := hide hb
      obtain ⟨v0, hxe, hv0⟩ := HF5.out hb
      clear hb
      subst hxe
      have hn := ready_not hi
      have hst9 : b9 = false := by
        cases e : b9 with
        | false => rfl
        | true => have h5 := (HF9.out e).2; rw [h5] at hn; cases hn
      have Hst9 := hide hst9
      clear hst9
      clear hn
      clear hi
      refine wpOp_step rfl (fun K hK => ?_)
      go_simp
      refine hK _ _ ?_
      clear hK K
      exact ⟨b0, b1, b2, b3, b4, b5, true, b7, b8, b9, b10, x4_0, x4_1, x4_2, x4_3, x4_4, .tuple #[v0, .int .i64 0], v0, x4_7, x4_8, x4_10, rfl, rfl, hup, HF0.out, HF1.out, HF2.out, HF3.out, HF4.out, HF5.out, (fun _ => hv0), HF7.out, (fun h => ((HF8.out h).up (Up.refl _)).unfilled Hst9.out _), (fun h => ⟨(HF9.out h).1, rfl⟩), HF10.out⟩
    · skip
      have hb : b5 = true := getB (l := [b0, b1, b2, b3, b4, b5, b6, b7, b8, b9, b10]) (ready_dep hi rfl 5 (by kernel_rfl)) rfl
      have Hb := hide hb
      obtain ⟨v0, hxe, hv0⟩ := HF5.out hb
      clear hb
      subst hxe
      clear hi
      refine wpOp_step rfl (fun K hK => ?_)
      go_simp
      refine hK _ _ ?_
      clear hK K
      exact ⟨b0, b1, b2, b3, b4, b5, b6, true, b8, b9, b10, x4_0, x4_1, x4_2, x4_3, x4_4, .tuple #[v0, .int .i64 0], x4_6, .int .i64 0, x4_8, x4_10, rfl, rfl, hup, HF0.out, HF1.out, HF2.out, HF3.out, HF4.out, HF5.out, HF6.out, (fun _ => rfl), HF8.out, HF9.out, HF10.out⟩
    · skip
      have hn := ready_not hi
      have hst9 : b9 = false := by
        cases e : b9 with
        | false => rfl
        | true => have h5 := (HF9.out e).1; rw [h5] at hn; cases hn
      have Hst9 := hide hst9
      clear hst9
      clear hn
      clear hi
      have hsz := hup.size
      have hupA := (Up.refl W).alloc (.cells #[.bool false, .slice none 0 0, .bool false, .slice none 0 0] 29)
      refine wpOp_step rfl (fun K hK => ?_)
      go_simp
      refine hK _ _ ?_
      clear hK K
      exact ⟨b0, b1, b2, b3, b4, b5, b6, b7, true, b9, b10, x4_0, x4_1, x4_2, x4_3, x4_4, x4_5, x4_6, x4_7, .pointer (some ⟨W.heap.size, 0, none⟩), x4_10, rfl, rfl, hup.trans hupA, HF0.out, HF1.out, (fun h => (HF2.out h).up hupA), HF3.out, (fun h => by obtain ⟨q0, rq, r0⟩ := HF4.out h; exact ⟨q0, rq, r0.up hupA⟩), (fun h => by obtain ⟨q0, rq, r0⟩ := HF5.out h; exact ⟨q0, rq, r0.up hupA⟩), (fun h => (HF6.out h).up hupA), HF7.out, (fun _ => by rw [Hst9.out]; exact B4.new _ W _ hsz), (fun h => ⟨rfl, (HF9.out h).2⟩), HF10.out⟩
    · skip
      have hb2 : b8 = true := getB (l := [b0, b1, b2, b3, b4, b5, b6, b7, b8, b9, b10]) (ready_dep hi rfl 8 (by kernel_rfl)) rfl
      have hb1 : b6 = true := getB (l := [b0, b1, b2, b3, b4, b5, b6, b7, b8, b9, b10]) (ready_dep hi rfl 6 (by kernel_rfl)) rfl
      clear hi
      obtain ⟨s9, A9, n9, c9, t9, C9, m9, d9, hxc⟩ := (HF6.out hb1).agg4
      subst hxc
      obtain ⟨g, s8, A8, n8, c8, t8, C8, m8, d8, hxb, hgB, hbk, _⟩ := HF8.out hb2
      subst hxb
      have f0 := hbk.cell (i := 0) rfl
      have z0 := hbk.frozen 0
      have f1 := hbk.cell (i := 1) rfl
      have z1 := hbk.frozen 1
      have f2 := hbk.cell (i := 2) rfl
      have z2 := hbk.frozen 2
      have f3 := hbk.cell (i := 3) rfl
      have z3 := hbk.frozen 3
      have Hb1 := hide hb1
      have Hb2 := hide hb2
      have hsz := hup.size
      clear hb1 hb2
      refine wpOp_step rfl (fun K hK => ?_)
      go_simp
      refine hK _ _ ?_
      clear hK K
      exact ⟨b0, b1, b2, b3, b4, b5, b6, b7, b8, true, b10, x4_0, x4_1, x4_2, x4_3, x4_4, x4_5, .agg #[.bool s9, .slice A9 n9 c9, .bool t9, .slice C9 m9 d9], x4_7, .pointer (some ⟨g, 0, none⟩), x4_10, rfl, rfl, hup.st4 (g := g) hgB _ _ _ _, HF0.out, HF1.out, (fun h => (HF2.out h).st4 hbk (noU4 _ _ _ _ _ _ _ _) _ _ _ _), HF3.out, (fun h => by obtain ⟨q0, rq, r0⟩ := HF4.out h; exact ⟨q0, rq, r0.st4 hbk (noU4 _ _ _ _ _ _ _ _) _ _ _ _⟩), (fun h => by obtain ⟨q0, rq, r0⟩ := HF5.out h; exact ⟨q0, rq, r0.st4 hbk (noU4 _ _ _ _ _ _ _ _) _ _ _ _⟩), (fun h => (HF6.out h).st4 hbk (noU4 _ _ _ _ _ _ _ _) _ _ _ _), HF7.out, (fun _ => hbk.fill4 hgB), (fun _ => ⟨Hb2.out, Hb1.out⟩), HF10.out⟩
    · skip
      have hb : b7 = true := getB (l := [b0, b1, b2, b3, b4, b5, b6, b7, b8, b9, b10]) (ready_dep hi rfl 7 (by kernel_rfl)) rfl
      have hx := hide (HF7.out hb)
      clear hb
      clear hi
      refine wpOp_step rfl (fun K hK => ?_)
      go_simp
      refine hK _ _ ?_
      clear hK K
      exact ⟨b0, b1, b2, b3, b4, b5, b6, b7, b8, b9, true, x4_0, x4_1, x4_2, x4_3, x4_4, x4_5, x4_6, x4_7, x4_8, x4_7, rfl, rfl, hup, HF0.out, HF1.out, HF2.out, HF3.out, HF4.out, HF5.out, HF6.out, HF7.out, HF8.out, HF9.out, (fun _ => hx.out)⟩
  case hQ =>
    rintro l a W4_ ⟨b0, b1, b2, b3, b4, b5, b6, b7, b8, b9, b10, x4_0, x4_1, x4_2, x4_3, x4_4, x4_5, x4_6, x4_7, x4_8, x4_10, rfl, rfl, hup, hF0, hF1, hF2, hF3, hF4, hF5, hF6, hF7, hF8, hF9, hF10⟩ hall
    have hb0 : b0 = true := getB (l := [b0, b1, b2, b3, b4, b5, b6, b7, b8, b9, b10]) (hall 0 (by decide)) rfl
    have hb1 : b1 = true := getB (l := [b0, b1, b2, b3, b4, b5, b6, b7, b8, b9, b10]) (hall 1 (by decide)) rfl
    have hb2 : b2 = true := getB (l := [b0, b1, b2, b3, b4, b5, b6, b7, b8, b9, b10]) (hall 2 (by decide)) rfl
    have hb3 : b3 = true := getB (l := [b0, b1, b2, b3, b4, b5, b6, b7, b8, b9, b10]) (hall 3 (by decide)) rfl
    have hb4 : b4 = true := getB (l := [b0, b1, b2, b3, b4, b5, b6, b7, b8, b9, b10]) (hall 4 (by decide)) rfl
    have hb5 : b5 = true := getB (l := [b0, b1, b2, b3, b4, b5, b6, b7, b8, b9, b10]) (hall 5 (by decide)) rfl
    have hb6 : b6 = true := getB (l := [b0, b1, b2, b3, b4, b5, b6, b7, b8, b9, b10]) (hall 6 (by decide)) rfl
    have hb7 : b7 = true := getB (l := [b0, b1, b2, b3, b4, b5, b6, b7, b8, b9, b10]) (hall 7 (by decide)) rfl
    have hb8 : b8 = true := getB (l := [b0, b1, b2, b3, b4, b5, b6, b7, b8, b9, b10]) (hall 8 (by decide)) rfl
    have hb9 : b9 = true := getB (l := [b0, b1, b2, b3, b4, b5, b6, b7, b8, b9, b10]) (hall 9 (by decide)) rfl
    have hb10 : b10 = true := getB (l := [b0, b1, b2, b3, b4, b5, b6, b7, b8, b9, b10]) (hall 10 (by decide)) rfl
    subst hb0 hb1 hb2 hb3 hb4 hb5 hb6 hb7 hb8 hb9 hb10
    clear hall
    have m0 := hF0 rfl
    have m1 := hF1 rfl
    have m2 := hF2 rfl
    have m3 := hF3 rfl
    have m4 := hF4 rfl
    have m5 := hF5 rfl
    have m6 := hF6 rfl
    have m7 := hF7 rfl
    have m8 := hF8 rfl
    have m10 := hF10 rfl
    clear hF0 hF1 hF2 hF3 hF4 hF5 hF6 hF7 hF8 hF9 hF10
    have hzI4 : w.heap.size ≤ w7.heap.size := hupw.size
    have hoI4 : w4.heap.size < w7.heap.size := hk3.lt
    replace hk2 := hk2.up hup
    replace hupw := hupw.trans hup
    clear hup
    obtain ⟨g4_8, s4_8, A4_8, n4_8, c4_8, t4_8, C4_8, m4_8, d4_8, rfl, hg4_8, hk4_8, he4_8⟩ := m8
    obtain rfl := he4_8 rfl
    clear he4_8
    have h4_8 := m6
    obtain rfl := m0
    obtain rfl := m1
    obtain rfl := m3
    obtain rfl := m7
    obtain rfl := m10
    have hk4_8c0 := hk4_8.cell (i := 0) rfl
    have hk4_8c1 := hk4_8.cell (i := 1) rfl
    have hk4_8c2 := hk4_8.cell (i := 2) rfl
    have hk4_8c3 := hk4_8.cell (i := 3) rfl
    have hk4_8l := hk4_8.lt
    have hk2c0 := hk2.cell (i := 0) rfl
    have hk2c1 := hk2.cell (i := 1) rfl
    have hk2c2 := hk2.cell (i := 2) rfl
    have hk2c3 := hk2.cell (i := 3) rfl
    have hk2l := hk2.lt
    have hk2f0 := hk2.frozen 0
    have hk2f1 := hk2.frozen 1
    have hk2f2 := hk2.frozen 2
    have hk2f3 := hk2.frozen 3
    go_wp2_with fail
    clear hk4_8c0 hk4_8c1 hk4_8c2 hk4_8c3 hk4_8l hk2c0 hk2c1 hk2c2 hk2c3 hk2l hk2f0 hk2f1 hk2f2 hk2f3
    obtain ⟨ws8, hws8⟩ : ∃ x, x = (st4 W4_ (w.heap.size + 1) (.bool s4_8) (.slice A4_8 n4_8 c4_8) (.bool t4_8) (.slice C4_8 m4_8 d4_8)) := ⟨_, rfl⟩
    have h4_8' := h4_8.st4 hk2 (noU4 _ _ _ _ _ _ _ _) (.bool s4_8) (.slice A4_8 n4_8 c4_8) (.bool t4_8) (.slice C4_8 m4_8 d4_8)
    rw [← hws8] at h4_8'
    clear h4_8
    have h4_8 := h4_8'
    clear h4_8'
    replace hupw := hupw.st4 (g := (w.heap.size + 1)) (by omega) (.bool s4_8) (.slice A4_8 n4_8 c4_8) (.bool t4_8) (.slice C4_8 m4_8 d4_8)
    rw [← hws8] at hupw
    replace hk2 := hk2.four (.bool s4_8) (.slice A4_8 n4_8 c4_8) (.bool t4_8) (.slice C4_8 m4_8 d4_8)
    rw [← hws8] at hk2
    have hszws8 : ws8.heap.size = W4_.heap.size := by rw [hws8]; simp [st4]
    unfold st4 at hws8
    rw [← hws8]
    clear hws8
    clear hszws8
    have hk2c0 := hk2.cell (i := 0) rfl
    have hk2c1 := hk2.cell (i := 1) rfl
    have hk2c2 := hk2.cell (i := 2) rfl
    have hk2c3 := hk2.cell (i := 3) rfl
    exact bodyPost_ret (v := .agg #[.bool s4_8, .slice A4_8 n4_8 c4_8, .bool t4_8, .slice C4_8 m4_8 d4_8]) (by simp [results, Tryz.results22, go_sem, hk2c0, hk2c1, hk2c2, hk2c3]) rfl ⟨_, rfl, h4_8, hupw⟩
/-- The fraction of two drafts' integers. -/
def mdR (y z : Int) : Rat := if z.natAbs = 0 then fr y 1 else fr y (z.natAbs : Int)
/-- A draft of the fraction r. -/
def Dz (w : World) (v : Value) (r : Rat) : Prop := ∃ y z, Gz w v (fun w v => Rd w v y) (fun w v => Rd w v z) ∧ r = mdR y z
theorem made_r {w : World} {v : Value} {r : Rat} (h : Dz w v r) : Calls Tryz.prog 22 #[v] w (PRz w r) := by
  obtain ⟨y, z, h, rfl⟩ := h
  unfold mdR
  by_cases hz : z.natAbs = 0
  · rw [if_pos hz]; exact made_0 v w h hz
  · rw [if_neg hz]; exact made_1 v w h (by omega)
section
variable {w w' : World} {x : Value} {r : Rat} {g : Nat}
theorem Dz.of (h : Gz w x RawIn RawIn) : ∃ r, Dz w x r := by
  obtain ⟨s, A, n, c, t, B, m, d, rfl, h1, h2⟩ := h
  obtain ⟨y, h1⟩ := h1.rd
  obtain ⟨z, h2⟩ := h2.rd
  exact ⟨_, y, z, ⟨s, A, n, c, t, B, m, d, rfl, h1, h2⟩, rfl⟩
theorem Dz.up (h : Dz w x r) (hu : Up w w') : Dz w' x r := by
  obtain ⟨y, z, h, e⟩ := h
  exact ⟨y, z, h.up (fun _ h => h.up hu) fun _ h => h.up hu, e⟩
theorem Dz.st2 {t : TypeId} {cs : Array Value} (h : Dz w x r) (hb : Bk w g t cs) (hn : NoU cs) (p q : Value) : Dz ((w.setCell ⟨g, 0, none⟩ p).setCell ⟨g, 1, none⟩ q) x r := by
  obtain ⟨y, z, h, e⟩ := h
  exact ⟨y, z, h.up (fun _ h => h.st2 hb hn p q) fun _ h => h.st2 hb hn p q, e⟩
theorem Dz.st4 {t : TypeId} {cs : Array Value} (h : Dz w x r) (hb : Bk w g t cs) (hn : NoU cs) (p q u v : Value) : Dz (Go.Proofs.YtldifgfpecicnaaGreatDoor.st4 w g p q u v) x r := by
  obtain ⟨y, z, h, e⟩ := h
  exact ⟨y, z, h.up (fun _ h => h.st4 hb hn p q u v) fun _ h => h.st4 hb hn p q u v, e⟩
theorem Dz.agg4 (h : Dz w x r) : ∃ s A n c t B m d, x = .agg #[.bool s, .slice A n c, .bool t, .slice B m d] := by
  obtain ⟨y, z, h, _⟩ := h
  exact h.agg4
end

end Go.Proofs.YtldifgfpecicnaaGreatDoor
