/- The order of fractions. -/
import Derived.Test.YtldifgfpecicnaaGreatDoorSm
namespace Go.Proofs.YtldifgfpecicnaaGreatDoor
open Go.RowKit

set_option maxRecDepth 100000 in
set_option maxHeartbeats 4000000 in
theorem order_ {a b c : Rat} {n0 n1 n2 d0 d1 d2 x y z : Int} (w : World)  (hp : Pow w) (p0 : -32768 ≤ n0) (q0 : n0 ≤ 32767) (p1 : -32768 ≤ n1) (q1 : n1 ≤ 32767) (p2 : -32768 ≤ n2) (q2 : n2 ≤ 32767) (s0 : 0 ≤ d0) (u0 : d0 ≤ 255) (s1 : 0 ≤ d1) (u1 : d1 ≤ 255) (s2 : 0 ≤ d2) (u2 : d2 ≤ 255) (Ha : Hid (a = fr n0 (d0 + 1))) (Hb : Hid (b = fr n1 (d1 + 1))) (Hc : Hid (c = fr n2 (d2 + 1))) (e1 : Hid (cmpV a b = x ∧ cmpE a b = 0)) (e2 : Hid (cmpV b c = y ∧ cmpE b c = 0)) (e3 : Hid (cmpV a c = z ∧ cmpE a c = 0)) (e4 : Hid (subR a b = okR (a - b))) (e5 : (nm (a - b)).sign = x) (_hb1 : (x != x) = false) (HF : Hid (0 < x ∨ 0 < y ∨ (z < 0 ∨ (z = 0 ∧ x = 0 ∧ y = 0)))) :
    Calls Tryz.prog 7 #[.agg #[.int .i16 n0, .int .i16 n1, .int .i16 n2], .agg #[.int .u8 d0, .int .u8 d1, .int .u8 d2]] w (PB w true) := by
  have hupw : Up w w := Up.refl w
  go_enter Tryz.func7, Tryz.ntmps7
  go_wp2_with fail
  obtain ⟨wa1, hwa1⟩ : ∃ x, x = ((w.alloc (.cells #[.int .i16 n0, .int .i16 n1, .int .i16 n2] 54)).alloc (.cells #[.int .u8 d0, .int .u8 d1, .int .u8 d2] 55)) := ⟨_, rfl⟩
  have hup : Up w wa1 := by rw [hwa1]; exact (((Up.refl w).alloc _).alloc _)
  have hzwa1 : w.heap.size ≤ w.heap.size := hupw.size
  replace hupw := hupw.trans hup
  clear hup
  have hk2 : Bk wa1 (w.heap.size) 54 #[.int .i16 n0, .int .i16 n1, .int .i16 n2] := by
    have := ((Bk.new w 54 #[.int .i16 n0, .int .i16 n1, .int .i16 n2]).alloc (.cells #[.int .u8 d0, .int .u8 d1, .int .u8 d2] 55))
    rw [hwa1]; simpa using this
  have hk3 : Bk wa1 (w.heap.size + 1) 55 #[.int .u8 d0, .int .u8 d1, .int .u8 d2] := by
    have := (Bk.new (w.alloc (.cells #[.int .i16 n0, .int .i16 n1, .int .i16 n2] 54)) 55 #[.int .u8 d0, .int .u8 d1, .int .u8 d2])
    rw [hwa1]; simpa using this
  rw [← hwa1]
  clear hwa1
  refine (awakeQ (hp.up hupw)).mono ?_
  rintro e w2 ⟨rfl, hup⟩
  replace hk2 := hk2.up hup
  replace hk3 := hk3.up hup
  replace hupw := hupw.trans hup
  clear hup
  go_wp2_with fail
  refine region_inv (fun lz az W => ∃ (b0 b1 b2 b3 b4 b5 b6 b7 b8 b9 b10 b11 b12 b13 b14 b15 b16 b17 b18 b19 b20 : Bool) (x3_0 x3_1 x3_2 x3_3 x3_4 x3_5 x3_6 x3_7 x3_8 x3_9 x3_10 x3_11 x3_12 x3_13 x3_14 x3_15 x3_16 x3_17 : Value), lz = #[b0, b1, b2, b3, b4, b5, b6, b7, b8, b9, b10, b11, b12, b13, b14, b15, b16, b17, b18, b19, b20] ∧ az = { tmps := #[.agg #[.int .i16 n0, .int .i16 n1, .int .i16 n2], .agg #[.int .u8 d0, .int .u8 d1, .int .u8 d2], .pointer (some ⟨w.heap.size, 0, none⟩), .pointer (some ⟨(w.heap.size + 1), 0, none⟩), .bool false, x3_15, x3_16, x3_17, undef, undef, undef, undef, undef, undef, undef, undef, .bool true, .bool false, x3_0, x3_1, x3_2, x3_3, x3_4, x3_5, x3_6, x3_7, x3_8, x3_9, x3_10, x3_11, x3_12, x3_13, x3_14, undef, undef, undef, undef, undef, undef, undef, undef, undef, undef, undef, undef, undef, undef, undef, undef, undef, undef, undef, undef, undef, undef, undef, undef, undef, undef, undef, undef, undef, undef, undef, undef, undef, undef, undef, undef, undef, undef, undef, undef, undef, undef, undef, undef, undef, undef, undef, undef, undef, undef, undef, undef, undef, undef, undef, undef, undef, undef, undef, undef, undef, undef, undef, undef, undef, undef, undef], defers := [] } ∧ Up w2 W ∧ (b0 = true → x3_0 = .pointer (some ⟨w.heap.size, 0, none⟩)) ∧ (b1 = true → x3_1 = .int .i16 n0) ∧ (b2 = true → x3_2 = .pointer (some ⟨(w.heap.size + 1), 0, none⟩)) ∧ (b3 = true → x3_3 = .int .u8 d0) ∧ (b4 = true → Rz W x3_4 a) ∧ (b5 = true → x3_5 = .pointer (some ⟨w.heap.size, 1, none⟩)) ∧ (b6 = true → x3_6 = .int .i16 n1) ∧ (b7 = true → x3_7 = .pointer (some ⟨(w.heap.size + 1), 1, none⟩)) ∧ (b8 = true → x3_8 = .int .u8 d1) ∧ (b9 = true → Rz W x3_9 b) ∧ (b10 = true → x3_10 = .pointer (some ⟨w.heap.size, 2, none⟩)) ∧ (b11 = true → x3_11 = .int .i16 n2) ∧ (b12 = true → x3_12 = .pointer (some ⟨(w.heap.size + 1), 2, none⟩)) ∧ (b13 = true → x3_13 = .int .u8 d2) ∧ (b14 = true → Rz W x3_14 c) ∧ (b15 = true → B4 (w2.heap.size) W x3_15 b18 x3_4) ∧ (b16 = true → B4 (w2.heap.size) W x3_16 b19 x3_9) ∧ (b17 = true → B4 (w2.heap.size) W x3_17 b20 x3_14) ∧ (b18 = true → b15 = true ∧ b4 = true) ∧ (b19 = true → b16 = true ∧ b9 = true) ∧ (b20 = true → b17 = true ∧ b14 = true) ∧ (b15 = true → b16 = true → x3_15 ≠ x3_16) ∧ (b15 = true → b17 = true → x3_15 ≠ x3_17) ∧ (b16 = true → b17 = true → x3_16 ≠ x3_17)) (by kernel_rfl) (by kernel_rfl) ?hs ?h0 ?hstep ?hQ
  case hs => rintro l a W ⟨b0, b1, b2, b3, b4, b5, b6, b7, b8, b9, b10, b11, b12, b13, b14, b15, b16, b17, b18, b19, b20, x3_0, x3_1, x3_2, x3_3, x3_4, x3_5, x3_6, x3_7, x3_8, x3_9, x3_10, x3_11, x3_12, x3_13, x3_14, x3_15, x3_16, x3_17, rfl, rfl, hup, hF0, hF1, hF2, hF3, hF4, hF5, hF6, hF7, hF8, hF9, hF10, hF11, hF12, hF13, hF14, hF15, hF16, hF17, hF18, hF19, hF20, hN15x16, hN15x17, hN16x17⟩; rfl
  case h0 => exact ⟨false, false, false, false, false, false, false, false, false, false, false, false, false, false, false, false, false, false, false, false, false, undef, undef, undef, undef, undef, undef, undef, undef, undef, undef, undef, undef, undef, undef, undef, undef, undef, undef, rfl, rfl, (Up.refl w2).drew, (fun h => by cases h), (fun h => by cases h), (fun h => by cases h), (fun h => by cases h), (fun h => by cases h), (fun h => by cases h), (fun h => by cases h), (fun h => by cases h), (fun h => by cases h), (fun h => by cases h), (fun h => by cases h), (fun h => by cases h), (fun h => by cases h), (fun h => by cases h), (fun h => by cases h), (fun h => by cases h), (fun h => by cases h), (fun h => by cases h), (fun h => by cases h), (fun h => by cases h), (fun h => by cases h), (fun h => by cases h), (fun h => by cases h), (fun h => by cases h)⟩
  case hstep =>
    rintro l a W ⟨b0, b1, b2, b3, b4, b5, b6, b7, b8, b9, b10, b11, b12, b13, b14, b15, b16, b17, b18, b19, b20, x3_0, x3_1, x3_2, x3_3, x3_4, x3_5, x3_6, x3_7, x3_8, x3_9, x3_10, x3_11, x3_12, x3_13, x3_14, x3_15, x3_16, x3_17, rfl, rfl, hup, hF0, hF1, hF2, hF3, hF4, hF5, hF6, hF7, hF8, hF9, hF10, hF11, hF12, hF13, hF14, hF15, hF16, hF17, hF18, hF19, hF20, hN15x16, hN15x17, hN16x17⟩ i hi
    have hlt : i < 21 := ready_lt hi
    have HF0 := hide hF0
    have HF1 := hide hF1
    have HF2 := hide hF2
    have HF3 := hide hF3
    have HF4 := hide hF4
    have HF5 := hide hF5
    have HF6 := hide hF6
    have HF7 := hide hF7
    have HF8 := hide hF8
    have HF9 := hide hF9
    have HF10 := hide hF10
    have HF11 := hide hF11
    have HF12 := hide hF12
    have HF13 := hide hF13
    have HF14 := hide hF14
    have HF15 := hide hF15
    have HF16 := hide hF16
    have HF17 := hide hF17
    have HF18 := hide hF18
    have HF19 := hide hF19
    have HF20 := hide hF20
    have HN15x16 := hide hN15x16
    have HN15x17 := hide hN15x17
    have HN16x17 := hide hN16x17
    clear hF0 hF1 hF2 hF3 hF4 hF5 hF6 hF7 hF8 hF9 hF10 hF11 hF12 hF13 hF14 hF15 hF16 hF17 hF18 hF19 hF20 hN15x16 hN15x17 hN16x17
    have hcase : i = 0 ∨ i = 1 ∨ i = 2 ∨ i = 3 ∨ i = 4 ∨ i = 5 ∨ i = 6 ∨ i = 7 ∨ i = 8 ∨ i = 9 ∨ i = 10 ∨ i = 11 ∨ i = 12 ∨ i = 13 ∨ i = 14 ∨ i = 15 ∨ i = 16 ∨ i = 17 ∨ i = 18 ∨ i = 19 ∨ i = 20 := by omega
    clear hlt
    rcases hcase with rfl | rfl | rfl | rfl | rfl | rfl | rfl | rfl | rfl | rfl | rfl | rfl | rfl | rfl | rfl | rfl | rfl | rfl | rfl | rfl | rfl
    · skip
      clear hi
      refine wpOp_step rfl (fun K hK => ?_)
      go_simp
      refine hK _ _ ?_
      clear hK K
      exact ⟨true, b1, b2, b3, b4, b5, b6, b7, b8, b9, b10, b11, b12, b13, b14, b15, b16, b17, b18, b19, b20, .pointer (some ⟨w.heap.size, 0, none⟩), x3_1, x3_2, x3_3, x3_4, x3_5, x3_6, x3_7, x3_8, x3_9, x3_10, x3_11, x3_12, x3_13, x3_14, x3_15, x3_16, x3_17, rfl, rfl, hup, (fun _ => rfl), HF1.out, HF2.out, HF3.out, HF4.out, HF5.out, HF6.out, HF7.out, HF8.out, HF9.out, HF10.out, HF11.out, HF12.out, HF13.out, HF14.out, HF15.out, HF16.out, HF17.out, HF18.out, HF19.out, HF20.out, HN15x16.out, HN15x17.out, HN16x17.out⟩
    · skip
      have kc0 := (hk2.up hup).cell (i := 0) rfl
      have hb : b0 = true := getB (l := [b0, b1, b2, b3, b4, b5, b6, b7, b8, b9, b10, b11, b12, b13, b14, b15, b16, b17, b18, b19, b20]) (ready_dep hi rfl 0 (by kernel_rfl)) rfl
      have hx := HF0.out hb
      clear hb
      subst hx
      clear hi
      refine wpOp_step rfl (fun K hK => ?_)
      go_simp
      refine hK _ _ ?_
      clear hK K
      exact ⟨b0, true, b2, b3, b4, b5, b6, b7, b8, b9, b10, b11, b12, b13, b14, b15, b16, b17, b18, b19, b20, .pointer (some ⟨w.heap.size, 0, none⟩), .int .i16 n0, x3_2, x3_3, x3_4, x3_5, x3_6, x3_7, x3_8, x3_9, x3_10, x3_11, x3_12, x3_13, x3_14, x3_15, x3_16, x3_17, rfl, rfl, hup, (fun _ => rfl), (fun _ => rfl), HF2.out, HF3.out, HF4.out, HF5.out, HF6.out, HF7.out, HF8.out, HF9.out, HF10.out, HF11.out, HF12.out, HF13.out, HF14.out, HF15.out, HF16.out, HF17.out, HF18.out, HF19.out, HF20.out, HN15x16.out, HN15x17.out, HN16x17.out⟩
    · skip
      clear hi
      refine wpOp_step rfl (fun K hK => ?_)
      go_simp
      refine hK _ _ ?_
      clear hK K
      exact ⟨b0, b1, true, b3, b4, b5, b6, b7, b8, b9, b10, b11, b12, b13, b14, b15, b16, b17, b18, b19, b20, x3_0, x3_1, .pointer (some ⟨(w.heap.size + 1), 0, none⟩), x3_3, x3_4, x3_5, x3_6, x3_7, x3_8, x3_9, x3_10, x3_11, x3_12, x3_13, x3_14, x3_15, x3_16, x3_17, rfl, rfl, hup, HF0.out, HF1.out, (fun _ => rfl), HF3.out, HF4.out, HF5.out, HF6.out, HF7.out, HF8.out, HF9.out, HF10.out, HF11.out, HF12.out, HF13.out, HF14.out, HF15.out, HF16.out, HF17.out, HF18.out, HF19.out, HF20.out, HN15x16.out, HN15x17.out, HN16x17.out⟩
    · skip
      have kc0 := (hk3.up hup).cell (i := 0) rfl
      have hb : b2 = true := getB (l := [b0, b1, b2, b3, b4, b5, b6, b7, b8, b9, b10, b11, b12, b13, b14, b15, b16, b17, b18, b19, b20]) (ready_dep hi rfl 2 (by kernel_rfl)) rfl
      have hx := HF2.out hb
      clear hb
      subst hx
      clear hi
      refine wpOp_step rfl (fun K hK => ?_)
      go_simp
      refine hK _ _ ?_
      clear hK K
      exact ⟨b0, b1, b2, true, b4, b5, b6, b7, b8, b9, b10, b11, b12, b13, b14, b15, b16, b17, b18, b19, b20, x3_0, x3_1, .pointer (some ⟨(w.heap.size + 1), 0, none⟩), .int .u8 d0, x3_4, x3_5, x3_6, x3_7, x3_8, x3_9, x3_10, x3_11, x3_12, x3_13, x3_14, x3_15, x3_16, x3_17, rfl, rfl, hup, HF0.out, HF1.out, (fun _ => rfl), (fun _ => rfl), HF4.out, HF5.out, HF6.out, HF7.out, HF8.out, HF9.out, HF10.out, HF11.out, HF12.out, HF13.out, HF14.out, HF15.out, HF16.out, HF17.out, HF18.out, HF19.out, HF20.out, HN15x16.out, HN15x17.out, HN16x17.out⟩
    · skip
      have hb : b1 = true := getB (l := [b0, b1, b2, b3, b4, b5, b6, b7, b8, b9, b10, b11, b12, b13, b14, b15, b16, b17, b18, b19, b20]) (ready_dep hi rfl 1 (by kernel_rfl)) rfl
      have hx := HF1.out hb
      clear hb
      subst hx
      have hb : b3 = true := getB (l := [b0, b1, b2, b3, b4, b5, b6, b7, b8, b9, b10, b11, b12, b13, b14, b15, b16, b17, b18, b19, b20]) (ready_dep hi rfl 3 (by kernel_rfl)) rfl
      have hx := HF3.out hb
      clear hb
      subst hx
      have hn := ready_not hi
      have hst18 : b18 = false := by
        cases e : b18 with
        | false => rfl
        | true => have h5 := (HF18.out e).2; rw [h5] at hn; cases hn
      have Hst18 := hide hst18
      clear hst18
      clear hn
      clear hi
      refine wpOp_step rfl (fun K hK => ?_)
      go_simp
      refine (smallR Ha.out p0 q0 s0 u0).mono ?_
      rintro e w1 ⟨v1, rfl, hv1, hup1⟩
      go_wp2_with fail
      exact ⟨b0, b1, b2, b3, true, b5, b6, b7, b8, b9, b10, b11, b12, b13, b14, b15, b16, b17, b18, b19, b20, x3_0, .int .i16 n0, x3_2, .int .u8 d0, v1, x3_5, x3_6, x3_7, x3_8, x3_9, x3_10, x3_11, x3_12, x3_13, x3_14, x3_15, x3_16, x3_17, rfl, rfl, hup.trans hup1, HF0.out, (fun _ => rfl), HF2.out, (fun _ => rfl), (fun _ => hv1), HF5.out, HF6.out, HF7.out, HF8.out, (fun h => (HF9.out h).up hup1), HF10.out, HF11.out, HF12.out, HF13.out, (fun h => (HF14.out h).up hup1), (fun h => ((HF15.out h).up hup1).unfilled Hst18.out _), (fun h => (HF16.out h).up hup1), (fun h => (HF17.out h).up hup1), (fun h => ⟨(HF18.out h).1, rfl⟩), HF19.out, HF20.out, HN15x16.out, HN15x17.out, HN16x17.out⟩
    · skip
      clear hi
      refine wpOp_step rfl (fun K hK => ?_)
      go_simp
      refine hK _ _ ?_
      clear hK K
      exact ⟨b0, b1, b2, b3, b4, true, b6, b7, b8, b9, b10, b11, b12, b13, b14, b15, b16, b17, b18, b19, b20, x3_0, x3_1, x3_2, x3_3, x3_4, .pointer (some ⟨w.heap.size, 1, none⟩), x3_6, x3_7, x3_8, x3_9, x3_10, x3_11, x3_12, x3_13, x3_14, x3_15, x3_16, x3_17, rfl, rfl, hup, HF0.out, HF1.out, HF2.out, HF3.out, HF4.out, (fun _ => rfl), HF6.out, HF7.out, HF8.out, HF9.out, HF10.out, HF11.out, HF12.out, HF13.out, HF14.out, HF15.out, HF16.out, HF17.out, HF18.out, HF19.out, HF20.out, HN15x16.out, HN15x17.out, HN16x17.out⟩
    · skip
      have kc1 := (hk2.up hup).cell (i := 1) rfl
      have hb : b5 = true := getB (l := [b0, b1, b2, b3, b4, b5, b6, b7, b8, b9, b10, b11, b12, b13, b14, b15, b16, b17, b18, b19, b20]) (ready_dep hi rfl 5 (by kernel_rfl)) rfl
      have hx := HF5.out hb
      clear hb
      subst hx
      clear hi
      refine wpOp_step rfl (fun K hK => ?_)
      go_simp
      refine hK _ _ ?_
      clear hK K
      exact ⟨b0, b1, b2, b3, b4, b5, true, b7, b8, b9, b10, b11, b12, b13, b14, b15, b16, b17, b18, b19, b20, x3_0, x3_1, x3_2, x3_3, x3_4, .pointer (some ⟨w.heap.size, 1, none⟩), .int .i16 n1, x3_7, x3_8, x3_9, x3_10, x3_11, x3_12, x3_13, x3_14, x3_15, x3_16, x3_17, rfl, rfl, hup, HF0.out, HF1.out, HF2.out, HF3.out, HF4.out, (fun _ => rfl), (fun _ => rfl), HF7.out, HF8.out, HF9.out, HF10.out, HF11.out, HF12.out, HF13.out, HF14.out, HF15.out, HF16.out, HF17.out, HF18.out, HF19.out, HF20.out, HN15x16.out, HN15x17.out, HN16x17.out⟩
    · skip
      clear hi
      refine wpOp_step rfl (fun K hK => ?_)
      go_simp
      refine hK _ _ ?_
      clear hK K
      exact ⟨b0, b1, b2, b3, b4, b5, b6, true, b8, b9, b10, b11, b12, b13, b14, b15, b16, b17, b18, b19, b20, x3_0, x3_1, x3_2, x3_3, x3_4, x3_5, x3_6, .pointer (some ⟨(w.heap.size + 1), 1, none⟩), x3_8, x3_9, x3_10, x3_11, x3_12, x3_13, x3_14, x3_15, x3_16, x3_17, rfl, rfl, hup, HF0.out, HF1.out, HF2.out, HF3.out, HF4.out, HF5.out, HF6.out, (fun _ => rfl), HF8.out, HF9.out, HF10.out, HF11.out, HF12.out, HF13.out, HF14.out, HF15.out, HF16.out, HF17.out, HF18.out, HF19.out, HF20.out, HN15x16.out, HN15x17.out, HN16x17.out⟩
    · skip
      have kc1 := (hk3.up hup).cell (i := 1) rfl
      have hb : b7 = true := getB (l := [b0, b1, b2, b3, b4, b5, b6, b7, b8, b9, b10, b11, b12, b13, b14, b15, b16, b17, b18, b19, b20]) (ready_dep hi rfl 7 (by kernel_rfl)) rfl
      have hx := HF7.out hb
      clear hb
      subst hx
      clear hi
      refine wpOp_step rfl (fun K hK => ?_)
      go_simp
      refine hK _ _ ?_
      clear hK K
      exact ⟨b0, b1, b2, b3, b4, b5, b6, b7, true, b9, b10, b11, b12, b13, b14, b15, b16, b17, b18, b19, b20, x3_0, x3_1, x3_2, x3_3, x3_4, x3_5, x3_6, .pointer (some ⟨(w.heap.size + 1), 1, none⟩), .int .u8 d1, x3_9, x3_10, x3_11, x3_12, x3_13, x3_14, x3_15, x3_16, x3_17, rfl, rfl, hup, HF0.out, HF1.out, HF2.out, HF3.out, HF4.out, HF5.out, HF6.out, (fun _ => rfl), (fun _ => rfl), HF9.out, HF10.out, HF11.out, HF12.out, HF13.out, HF14.out, HF15.out, HF16.out, HF17.out, HF18.out, HF19.out, HF20.out, HN15x16.out, HN15x17.out, HN16x17.out⟩
    · skip
      have hb : b6 = true := getB (l := [b0, b1, b2, b3, b4, b5, b6, b7, b8, b9, b10, b11, b12, b13, b14, b15, b16, b17, b18, b19, b20]) (ready_dep hi rfl 6 (by kernel_rfl)) rfl
      have hx := HF6.out hb
      clear hb
      subst hx
      have hb : b8 = true := getB (l := [b0, b1, b2, b3, b4, b5, b6, b7, b8, b9, b10, b11, b12, b13, b14, b15, b16, b17, b18, b19, b20]) (ready_dep hi rfl 8 (by kernel_rfl)) rfl
      have hx := HF8.out hb
      clear hb
      subst hx
      have hn := ready_not hi
      have hst19 : b19 = false := by
        cases e : b19 with
        | false => rfl
        | true => have h5 := (HF19.out e).2; rw [h5] at hn; cases hn
      have Hst19 := hide hst19
      clear hst19
      clear hn
      clear hi
      refine wpOp_step rfl (fun K hK => ?_)
      go_simp
      refine (smallR Hb.out p1 q1 s1 u1).mono ?_
      rintro e w1 ⟨v1, rfl, hv1, hup1⟩
      go_wp2_with fail
      exact ⟨b0, b1, b2, b3, b4, b5, b6, b7, b8, true, b10, b11, b12, b13, b14, b15, b16, b17, b18, b19, b20, x3_0, x3_1, x3_2, x3_3, x3_4, x3_5, .int .i16 n1, x3_7, .int .u8 d1, v1, x3_10, x3_11, x3_12, x3_13, x3_14, x3_15, x3_16, x3_17, rfl, rfl, hup.trans hup1, HF0.out, HF1.out, HF2.out, HF3.out, (fun h => (HF4.out h).up hup1), HF5.out, (fun _ => rfl), HF7.out, (fun _ => rfl), (fun _ => hv1), HF10.out, HF11.out, HF12.out, HF13.out, (fun h => (HF14.out h).up hup1), (fun h => (HF15.out h).up hup1), (fun h => ((HF16.out h).up hup1).unfilled Hst19.out _), (fun h => (HF17.out h).up hup1), HF18.out, (fun h => ⟨(HF19.out h).1, rfl⟩), HF20.out, HN15x16.out, HN15x17.out, HN16x17.out⟩
    · skip
      clear hi
      refine wpOp_step rfl (fun K hK => ?_)
      go_simp
      refine hK _ _ ?_
      clear hK K
      exact ⟨b0, b1, b2, b3, b4, b5, b6, b7, b8, b9, true, b11, b12, b13, b14, b15, b16, b17, b18, b19, b20, x3_0, x3_1, x3_2, x3_3, x3_4, x3_5, x3_6, x3_7, x3_8, x3_9, .pointer (some ⟨w.heap.size, 2, none⟩), x3_11, x3_12, x3_13, x3_14, x3_15, x3_16, x3_17, rfl, rfl, hup, HF0.out, HF1.out, HF2.out, HF3.out, HF4.out, HF5.out, HF6.out, HF7.out, HF8.out, HF9.out, (fun _ => rfl), HF11.out, HF12.out, HF13.out, HF14.out, HF15.out, HF16.out, HF17.out, HF18.out, HF19.out, HF20.out, HN15x16.out, HN15x17.out, HN16x17.out⟩
    · skip
      have kc2 := (hk2.up hup).cell (i := 2) rfl
      have hb : b10 = true := getB (l := [b0, b1, b2, b3, b4, b5, b6, b7, b8, b9, b10, b11, b12, b13, b14, b15, b16, b17, b18, b19, b20]) (ready_dep hi rfl 10 (by kernel_rfl)) rfl
      have hx := HF10.out hb
      clear hb
      subst hx
      clear hi
      refine wpOp_step rfl (fun K hK => ?_)
      go_simp
      refine hK _ _ ?_
      clear hK K
      exact ⟨b0, b1, b2, b3, b4, b5, b6, b7, b8, b9, b10, true, b12, b13, b14, b15, b16, b17, b18, b19, b20, x3_0, x3_1, x3_2, x3_3, x3_4, x3_5, x3_6, x3_7, x3_8, x3_9, .pointer (some ⟨w.heap.size, 2, none⟩), .int .i16 n2, x3_12, x3_13, x3_14, x3_15, x3_16, x3_17, rfl, rfl, hup, HF0.out, HF1.out, HF2.out, HF3.out, HF4.out, HF5.out, HF6.out, HF7.out, HF8.out, HF9.out, (fun _ => rfl), (fun _ => rfl), HF12.out, HF13.out, HF14.out, HF15.out, HF16.out, HF17.out, HF18.out, HF19.out, HF20.out, HN15x16.out, HN15x17.out, HN16x17.out⟩
    · skip
      clear hi
      refine wpOp_step rfl (fun K hK => ?_)
      go_simp
      refine hK _ _ ?_
      clear hK K
      exact ⟨b0, b1, b2, b3, b4, b5, b6, b7, b8, b9, b10, b11, true, b13, b14, b15, b16, b17, b18, b19, b20, x3_0, x3_1, x3_2, x3_3, x3_4, x3_5, x3_6, x3_7, x3_8, x3_9, x3_10, x3_11, .pointer (some ⟨(w.heap.size + 1), 2, none⟩), x3_13, x3_14, x3_15, x3_16, x3_17, rfl, rfl, hup, HF0.out, HF1.out, HF2.out, HF3.out, HF4.out, HF5.out, HF6.out, HF7.out, HF8.out, HF9.out, HF10.out, HF11.out, (fun _ => rfl), HF13.out, HF14.out, HF15.out, HF16.out, HF17.out, HF18.out, HF19.out, HF20.out, HN15x16.out, HN15x17.out, HN16x17.out⟩
    · skip
      have kc2 := (hk3.up hup).cell (i := 2) rfl
      have hb : b12 = true := getB (l := [b0, b1, b2, b3, b4, b5, b6, b7, b8, b9, b10, b11, b12, b13, b14, b15, b16, b17, b18, b19, b20]) (ready_dep hi rfl 12 (by kernel_rfl)) rfl
      have hx := HF12.out hb
      clear hb
      subst hx
      clear hi
      refine wpOp_step rfl (fun K hK => ?_)
      go_simp
      refine hK _ _ ?_
      clear hK K
      exact ⟨b0, b1, b2, b3, b4, b5, b6, b7, b8, b9, b10, b11, b12, true, b14, b15, b16, b17, b18, b19, b20, x3_0, x3_1, x3_2, x3_3, x3_4, x3_5, x3_6, x3_7, x3_8, x3_9, x3_10, x3_11, .pointer (some ⟨(w.heap.size + 1), 2, none⟩), .int .u8 d2, x3_14, x3_15, x3_16, x3_17, rfl, rfl, hup, HF0.out, HF1.out, HF2.out, HF3.out, HF4.out, HF5.out, HF6.out, HF7.out, HF8.out, HF9.out, HF10.out, HF11.out, (fun _ => rfl), (fun _ => rfl), HF14.out, HF15.out, HF16.out, HF17.out, HF18.out, HF19.out, HF20.out, HN15x16.out, HN15x17.out, HN16x17.out⟩
    · skip
      have hb : b11 = true := getB (l := [b0, b1, b2, b3, b4, b5, b6, b7, b8, b9, b10, b11, b12, b13, b14, b15, b16, b17, b18, b19, b20]) (ready_dep hi rfl 11 (by kernel_rfl)) rfl
      have hx := HF11.out hb
      clear hb
      subst hx
      have hb : b13 = true := getB (l := [b0, b1, b2, b3, b4, b5, b6, b7, b8, b9, b10, b11, b12, b13, b14, b15, b16, b17, b18, b19, b20]) (ready_dep hi rfl 13 (by kernel_rfl)) rfl
      have hx := HF13.out hb
      clear hb
      subst hx
      have hn := ready_not hi
      have hst20 : b20 = false := by
        cases e : b20 with
        | false => rfl
        | true => have h5 := (HF20.out e).2; rw [h5] at hn; cases hn
      have Hst20 := hide hst20
      clear hst20
      clear hn
      clear hi
      refine wpOp_step rfl (fun K hK => ?_)
      go_simp
      refine (smallR Hc.out p2 q2 s2 u2).mono ?_
      rintro e w1 ⟨v1, rfl, hv1, hup1⟩
      go_wp2_with fail
      exact ⟨b0, b1, b2, b3, b4, b5, b6, b7, b8, b9, b10, b11, b12, b13, true, b15, b16, b17, b18, b19, b20, x3_0, x3_1, x3_2, x3_3, x3_4, x3_5, x3_6, x3_7, x3_8, x3_9, x3_10, .int .i16 n2, x3_12, .int .u8 d2, v1, x3_15, x3_16, x3_17, rfl, rfl, hup.trans hup1, HF0.out, HF1.out, HF2.out, HF3.out, (fun h => (HF4.out h).up hup1), HF5.out, HF6.out, HF7.out, HF8.out, (fun h => (HF9.out h).up hup1), HF10.out, (fun _ => rfl), HF12.out, (fun _ => rfl), (fun _ => hv1), (fun h => (HF15.out h).up hup1), (fun h => (HF16.out h).up hup1), (fun h => ((HF17.out h).up hup1).unfilled Hst20.out _), HF18.out, HF19.out, (fun h => ⟨(HF20.out h).1, rfl⟩), HN15x16.out, HN15x17.out, HN16x17.out⟩
    · skip
      have hn := ready_not hi
      have hst18 : b18 = false := by
        cases e : b18 with
        | false => rfl
        | true => have h5 := (HF18.out e).1; rw [h5] at hn; cases hn
      have Hst18 := hide hst18
      clear hst18
      clear hn
      clear hi
      have hsz := hup.size
      have hupA := (Up.refl W).alloc (.cells #[.bool false, .slice none 0 0, .bool false, .slice none 0 0] 29)
      refine wpOp_step rfl (fun K hK => ?_)
      go_simp
      refine hK _ _ ?_
      clear hK K
      exact ⟨b0, b1, b2, b3, b4, b5, b6, b7, b8, b9, b10, b11, b12, b13, b14, true, b16, b17, b18, b19, b20, x3_0, x3_1, x3_2, x3_3, x3_4, x3_5, x3_6, x3_7, x3_8, x3_9, x3_10, x3_11, x3_12, x3_13, x3_14, .pointer (some ⟨W.heap.size, 0, none⟩), x3_16, x3_17, rfl, rfl, hup.trans hupA, HF0.out, HF1.out, HF2.out, HF3.out, (fun h => (HF4.out h).up hupA), HF5.out, HF6.out, HF7.out, HF8.out, (fun h => (HF9.out h).up hupA), HF10.out, HF11.out, HF12.out, HF13.out, (fun h => (HF14.out h).up hupA), (fun _ => by rw [Hst18.out]; exact B4.new _ W _ hsz), (fun h => (HF16.out h).up hupA), (fun h => (HF17.out h).up hupA), (fun h => ⟨rfl, (HF18.out h).2⟩), HF19.out, HF20.out, (fun _ h => (HF16.out h).ne_new.symm), (fun _ h => (HF17.out h).ne_new.symm), HN16x17.out⟩
    · skip
      have hn := ready_not hi
      have hst19 : b19 = false := by
        cases e : b19 with
        | false => rfl
        | true => have h5 := (HF19.out e).1; rw [h5] at hn; cases hn
      have Hst19 := hide hst19
      clear hst19
      clear hn
      clear hi
      have hsz := hup.size
      have hupA := (Up.refl W).alloc (.cells #[.bool false, .slice none 0 0, .bool false, .slice none 0 0] 29)
      refine wpOp_step rfl (fun K hK => ?_)
      go_simp
      refine hK _ _ ?_
      clear hK K
      exact ⟨b0, b1, b2, b3, b4, b5, b6, b7, b8, b9, b10, b11, b12, b13, b14, b15, true, b17, b18, b19, b20, x3_0, x3_1, x3_2, x3_3, x3_4, x3_5, x3_6, x3_7, x3_8, x3_9, x3_10, x3_11, x3_12, x3_13, x3_14, x3_15, .pointer (some ⟨W.heap.size, 0, none⟩), x3_17, rfl, rfl, hup.trans hupA, HF0.out, HF1.out, HF2.out, HF3.out, (fun h => (HF4.out h).up hupA), HF5.out, HF6.out, HF7.out, HF8.out, (fun h => (HF9.out h).up hupA), HF10.out, HF11.out, HF12.out, HF13.out, (fun h => (HF14.out h).up hupA), (fun h => (HF15.out h).up hupA), (fun _ => by rw [Hst19.out]; exact B4.new _ W _ hsz), (fun h => (HF17.out h).up hupA), HF18.out, (fun h => ⟨rfl, (HF19.out h).2⟩), HF20.out, (fun h _ => (HF15.out h).ne_new), HN15x17.out, (fun _ h => (HF17.out h).ne_new.symm)⟩
    · skip
      have hn := ready_not hi
      have hst20 : b20 = false := by
        cases e : b20 with
        | false => rfl
        | true => have h5 := (HF20.out e).1; rw [h5] at hn; cases hn
      have Hst20 := hide hst20
      clear hst20
      clear hn
      clear hi
      have hsz := hup.size
      have hupA := (Up.refl W).alloc (.cells #[.bool false, .slice none 0 0, .bool false, .slice none 0 0] 29)
      refine wpOp_step rfl (fun K hK => ?_)
      go_simp
      refine hK _ _ ?_
      clear hK K
      exact ⟨b0, b1, b2, b3, b4, b5, b6, b7, b8, b9, b10, b11, b12, b13, b14, b15, b16, true, b18, b19, b20, x3_0, x3_1, x3_2, x3_3, x3_4, x3_5, x3_6, x3_7, x3_8, x3_9, x3_10, x3_11, x3_12, x3_13, x3_14, x3_15, x3_16, .pointer (some ⟨W.heap.size, 0, none⟩), rfl, rfl, hup.trans hupA, HF0.out, HF1.out, HF2.out, HF3.out, (fun h => (HF4.out h).up hupA), HF5.out, HF6.out, HF7.out, HF8.out, (fun h => (HF9.out h).up hupA), HF10.out, HF11.out, HF12.out, HF13.out, (fun h => (HF14.out h).up hupA), (fun h => (HF15.out h).up hupA), (fun h => (HF16.out h).up hupA), (fun _ => by rw [Hst20.out]; exact B4.new _ W _ hsz), HF18.out, HF19.out, (fun h => ⟨rfl, (HF20.out h).2⟩), HN15x16.out, (fun h _ => (HF15.out h).ne_new), (fun h _ => (HF16.out h).ne_new)⟩
    · skip
      have hb2 : b15 = true := getB (l := [b0, b1, b2, b3, b4, b5, b6, b7, b8, b9, b10, b11, b12, b13, b14, b15, b16, b17, b18, b19, b20]) (ready_dep hi rfl 15 (by kernel_rfl)) rfl
      have hb1 : b4 = true := getB (l := [b0, b1, b2, b3, b4, b5, b6, b7, b8, b9, b10, b11, b12, b13, b14, b15, b16, b17, b18, b19, b20]) (ready_dep hi rfl 4 (by kernel_rfl)) rfl
      clear hi
      obtain ⟨s9, A9, n9, c9, t9, C9, m9, d9, hxc⟩ := (HF4.out hb1).agg4
      subst hxc
      obtain ⟨g, s8, A8, n8, c8, t8, C8, m8, d8, hxb, hgB, hbk, _⟩ := HF15.out hb2
      subst hxb
      have f0 := hbk.cell (i := 0) rfl
      have z0 := hbk.frozen 0
      have f1 := hbk.cell (i := 1) rfl
      have z1 := hbk.frozen 1
      have f2 := hbk.cell (i := 2) rfl
      have z2 := hbk.frozen 2
      have f3 := hbk.cell (i := 3) rfl
      have z3 := hbk.frozen 3
      have Hb1 := hide hb1
      have Hb2 := hide hb2
      have hsz := hup.size
      clear hb1 hb2
      refine wpOp_step rfl (fun K hK => ?_)
      go_simp
      refine hK _ _ ?_
      clear hK K
      exact ⟨b0, b1, b2, b3, b4, b5, b6, b7, b8, b9, b10, b11, b12, b13, b14, b15, b16, b17, true, b19, b20, x3_0, x3_1, x3_2, x3_3, .agg #[.bool s9, .slice A9 n9 c9, .bool t9, .slice C9 m9 d9], x3_5, x3_6, x3_7, x3_8, x3_9, x3_10, x3_11, x3_12, x3_13, x3_14, .pointer (some ⟨g, 0, none⟩), x3_16, x3_17, rfl, rfl, hup.st4 (g := g) hgB _ _ _ _, HF0.out, HF1.out, HF2.out, HF3.out, (fun h => (HF4.out h).st4 hbk (noU4 _ _ _ _ _ _ _ _) _ _ _ _), HF5.out, HF6.out, HF7.out, HF8.out, (fun h => (HF9.out h).st4 hbk (noU4 _ _ _ _ _ _ _ _) _ _ _ _), HF10.out, HF11.out, HF12.out, HF13.out, (fun h => (HF14.out h).st4 hbk (noU4 _ _ _ _ _ _ _ _) _ _ _ _), (fun _ => hbk.fill4 hgB), (fun h => (HF16.out h).far ((HN15x16.out Hb2.out h).symm) _ _ _ _), (fun h => (HF17.out h).far ((HN15x17.out Hb2.out h).symm) _ _ _ _), (fun _ => ⟨Hb2.out, Hb1.out⟩), HF19.out, HF20.out, HN15x16.out, HN15x17.out, HN16x17.out⟩
    · skip
      have hb2 : b16 = true := getB (l := [b0, b1, b2, b3, b4, b5, b6, b7, b8, b9, b10, b11, b12, b13, b14, b15, b16, b17, b18, b19, b20]) (ready_dep hi rfl 16 (by kernel_rfl)) rfl
      have hb1 : b9 = true := getB (l := [b0, b1, b2, b3, b4, b5, b6, b7, b8, b9, b10, b11, b12, b13, b14, b15, b16, b17, b18, b19, b20]) (ready_dep hi rfl 9 (by kernel_rfl)) rfl
      clear hi
      obtain ⟨s9, A9, n9, c9, t9, C9, m9, d9, hxc⟩ := (HF9.out hb1).agg4
      subst hxc
      obtain ⟨g, s8, A8, n8, c8, t8, C8, m8, d8, hxb, hgB, hbk, _⟩ := HF16.out hb2
      subst hxb
      have f0 := hbk.cell (i := 0) rfl
      have z0 := hbk.frozen 0
      have f1 := hbk.cell (i := 1) rfl
      have z1 := hbk.frozen 1
      have f2 := hbk.cell (i := 2) rfl
      have z2 := hbk.frozen 2
      have f3 := hbk.cell (i := 3) rfl
      have z3 := hbk.frozen 3
      have Hb1 := hide hb1
      have Hb2 := hide hb2
      have hsz := hup.size
      clear hb1 hb2
      refine wpOp_step rfl (fun K hK => ?_)
      go_simp
      refine hK _ _ ?_
      clear hK K
      exact ⟨b0, b1, b2, b3, b4, b5, b6, b7, b8, b9, b10, b11, b12, b13, b14, b15, b16, b17, b18, true, b20, x3_0, x3_1, x3_2, x3_3, x3_4, x3_5, x3_6, x3_7, x3_8, .agg #[.bool s9, .slice A9 n9 c9, .bool t9, .slice C9 m9 d9], x3_10, x3_11, x3_12, x3_13, x3_14, x3_15, .pointer (some ⟨g, 0, none⟩), x3_17, rfl, rfl, hup.st4 (g := g) hgB _ _ _ _, HF0.out, HF1.out, HF2.out, HF3.out, (fun h => (HF4.out h).st4 hbk (noU4 _ _ _ _ _ _ _ _) _ _ _ _), HF5.out, HF6.out, HF7.out, HF8.out, (fun h => (HF9.out h).st4 hbk (noU4 _ _ _ _ _ _ _ _) _ _ _ _), HF10.out, HF11.out, HF12.out, HF13.out, (fun h => (HF14.out h).st4 hbk (noU4 _ _ _ _ _ _ _ _) _ _ _ _), (fun h => (HF15.out h).far (HN15x16.out h Hb2.out) _ _ _ _), (fun _ => hbk.fill4 hgB), (fun h => (HF17.out h).far ((HN16x17.out Hb2.out h).symm) _ _ _ _), HF18.out, (fun _ => ⟨Hb2.out, Hb1.out⟩), HF20.out, HN15x16.out, HN15x17.out, HN16x17.out⟩
    · skip
      have hb2 : b17 = true := getB (l := [b0, b1, b2, b3, b4, b5, b6, b7, b8, b9, b10, b11, b12, b13, b14, b15, b16, b17, b18, b19, b20]) (ready_dep hi rfl 17 (by kernel_rfl)) rfl
      have hb1 : b14 = true := getB (l := [b0, b1, b2, b3, b4, b5, b6, b7, b8, b9, b10, b11, b12, b13, b14, b15, b16, b17, b18, b19, b20]) (ready_dep hi rfl 14 (by kernel_rfl)) rfl
      clear hi
      obtain ⟨s9, A9, n9, c9, t9, C9, m9, d9, hxc⟩ := (HF14.out hb1).agg4
      subst hxc
      obtain ⟨g, s8, A8, n8, c8, t8, C8, m8, d8, hxb, hgB, hbk, _⟩ := HF17.out hb2
      subst hxb
      have f0 := hbk.cell (i := 0) rfl
      have z0 := hbk.frozen 0
      have f1 := hbk.cell (i := 1) rfl
      have z1 := hbk.frozen 1
      have f2 := hbk.cell (i := 2) rfl
      have z2 := hbk.frozen 2
      have f3 := hbk.cell (i := 3) rfl
      have z3 := hbk.frozen 3
      have Hb1 := hide hb1
      have Hb2 := hide hb2
      have hsz := hup.size
      clear hb1 hb2
      refine wpOp_step rfl (fun K hK => ?_)
      go_simp
      refine hK _ _ ?_
      clear hK K
      exact ⟨b0, b1, b2, b3, b4, b5, b6, b7, b8, b9, b10, b11, b12, b13, b14, b15, b16, b17, b18, b19, true, x3_0, x3_1, x3_2, x3_3, x3_4, x3_5, x3_6, x3_7, x3_8, x3_9, x3_10, x3_11, x3_12, x3_13, .agg #[.bool s9, .slice A9 n9 c9, .bool t9, .slice C9 m9 d9], x3_15, x3_16, .pointer (some ⟨g, 0, none⟩), rfl, rfl, hup.st4 (g := g) hgB _ _ _ _, HF0.out, HF1.out, HF2.out, HF3.out, (fun h => (HF4.out h).st4 hbk (noU4 _ _ _ _ _ _ _ _) _ _ _ _), HF5.out, HF6.out, HF7.out, HF8.out, (fun h => (HF9.out h).st4 hbk (noU4 _ _ _ _ _ _ _ _) _ _ _ _), HF10.out, HF11.out, HF12.out, HF13.out, (fun h => (HF14.out h).st4 hbk (noU4 _ _ _ _ _ _ _ _) _ _ _ _), (fun h => (HF15.out h).far (HN15x17.out h Hb2.out) _ _ _ _), (fun h => (HF16.out h).far (HN16x17.out h Hb2.out) _ _ _ _), (fun _ => hbk.fill4 hgB), HF18.out, HF19.out, (fun _ => ⟨Hb2.out, Hb1.out⟩), HN15x16.out, HN15x17.out, HN16x17.out⟩
  case hQ =>
    rintro l a W3_ ⟨b0, b1, b2, b3, b4, b5, b6, b7, b8, b9, b10, b11, b12, b13, b14, b15, b16, b17, b18, b19, b20, x3_0, x3_1, x3_2, x3_3, x3_4, x3_5, x3_6, x3_7, x3_8, x3_9, x3_10, x3_11, x3_12, x3_13, x3_14, x3_15, x3_16, x3_17, rfl, rfl, hup, hF0, hF1, hF2, hF3, hF4, hF5, hF6, hF7, hF8, hF9, hF10, hF11, hF12, hF13, hF14, hF15, hF16, hF17, hF18, hF19, hF20, hN15x16, hN15x17, hN16x17⟩ hall
    have hb0 : b0 = true := getB (l := [b0, b1, b2, b3, b4, b5, b6, b7, b8, b9, b10, b11, b12, b13, b14, b15, b16, b17, b18, b19, b20]) (hall 0 (by decide)) rfl
    have hb1 : b1 = true := getB (l := [b0, b1, b2, b3, b4, b5, b6, b7, b8, b9, b10, b11, b12, b13, b14, b15, b16, b17, b18, b19, b20]) (hall 1 (by decide)) rfl
    have hb2 : b2 = true := getB (l := [b0, b1, b2, b3, b4, b5, b6, b7, b8, b9, b10, b11, b12, b13, b14, b15, b16, b17, b18, b19, b20]) (hall 2 (by decide)) rfl
    have hb3 : b3 = true := getB (l := [b0, b1, b2, b3, b4, b5, b6, b7, b8, b9, b10, b11, b12, b13, b14, b15, b16, b17, b18, b19, b20]) (hall 3 (by decide)) rfl
    have hb4 : b4 = true := getB (l := [b0, b1, b2, b3, b4, b5, b6, b7, b8, b9, b10, b11, b12, b13, b14, b15, b16, b17, b18, b19, b20]) (hall 4 (by decide)) rfl
    have hb5 : b5 = true := getB (l := [b0, b1, b2, b3, b4, b5, b6, b7, b8, b9, b10, b11, b12, b13, b14, b15, b16, b17, b18, b19, b20]) (hall 5 (by decide)) rfl
    have hb6 : b6 = true := getB (l := [b0, b1, b2, b3, b4, b5, b6, b7, b8, b9, b10, b11, b12, b13, b14, b15, b16, b17, b18, b19, b20]) (hall 6 (by decide)) rfl
    have hb7 : b7 = true := getB (l := [b0, b1, b2, b3, b4, b5, b6, b7, b8, b9, b10, b11, b12, b13, b14, b15, b16, b17, b18, b19, b20]) (hall 7 (by decide)) rfl
    have hb8 : b8 = true := getB (l := [b0, b1, b2, b3, b4, b5, b6, b7, b8, b9, b10, b11, b12, b13, b14, b15, b16, b17, b18, b19, b20]) (hall 8 (by decide)) rfl
    have hb9 : b9 = true := getB (l := [b0, b1, b2, b3, b4, b5, b6, b7, b8, b9, b10, b11, b12, b13, b14, b15, b16, b17, b18, b19, b20]) (hall 9 (by decide)) rfl
    have hb10 : b10 = true := getB (l := [b0, b1, b2, b3, b4, b5, b6, b7, b8, b9, b10, b11, b12, b13, b14, b15, b16, b17, b18, b19, b20]) (hall 10 (by decide)) rfl
    have hb11 : b11 = true := getB (l := [b0, b1, b2, b3, b4, b5, b6, b7, b8, b9, b10, b11, b12, b13, b14, b15, b16, b17, b18, b19, b20]) (hall 11 (by decide)) rfl
    have hb12 : b12 = true := getB (l := [b0, b1, b2, b3, b4, b5, b6, b7, b8, b9, b10, b11, b12, b13, b14, b15, b16, b17, b18, b19, b20]) (hall 12 (by decide)) rfl
    have hb13 : b13 = true := getB (l := [b0, b1, b2, b3, b4, b5, b6, b7, b8, b9, b10, b11, b12, b13, b14, b15, b16, b17, b18, b19, b20]) (hall 13 (by decide)) rfl
    have hb14 : b14 = true := getB (l := [b0, b1, b2, b3, b4, b5, b6, b7, b8, b9, b10, b11, b12, b13, b14, b15, b16, b17, b18, b19, b20]) (hall 14 (by decide)) rfl
    have hb15 : b15 = true := getB (l := [b0, b1, b2, b3, b4, b5, b6, b7, b8, b9, b10, b11, b12, b13, b14, b15, b16, b17, b18, b19, b20]) (hall 15 (by decide)) rfl
    have hb16 : b16 = true := getB (l := [b0, b1, b2, b3, b4, b5, b6, b7, b8, b9, b10, b11, b12, b13, b14, b15, b16, b17, b18, b19, b20]) (hall 16 (by decide)) rfl
    have hb17 : b17 = true := getB (l := [b0, b1, b2, b3, b4, b5, b6, b7, b8, b9, b10, b11, b12, b13, b14, b15, b16, b17, b18, b19, b20]) (hall 17 (by decide)) rfl
    have hb18 : b18 = true := getB (l := [b0, b1, b2, b3, b4, b5, b6, b7, b8, b9, b10, b11, b12, b13, b14, b15, b16, b17, b18, b19, b20]) (hall 18 (by decide)) rfl
    have hb19 : b19 = true := getB (l := [b0, b1, b2, b3, b4, b5, b6, b7, b8, b9, b10, b11, b12, b13, b14, b15, b16, b17, b18, b19, b20]) (hall 19 (by decide)) rfl
    have hb20 : b20 = true := getB (l := [b0, b1, b2, b3, b4, b5, b6, b7, b8, b9, b10, b11, b12, b13, b14, b15, b16, b17, b18, b19, b20]) (hall 20 (by decide)) rfl
    subst hb0 hb1 hb2 hb3 hb4 hb5 hb6 hb7 hb8 hb9 hb10 hb11 hb12 hb13 hb14 hb15 hb16 hb17 hb18 hb19 hb20
    clear hall
    have m0 := hF0 rfl
    have m1 := hF1 rfl
    have m2 := hF2 rfl
    have m3 := hF3 rfl
    have m4 := hF4 rfl
    have m5 := hF5 rfl
    have m6 := hF6 rfl
    have m7 := hF7 rfl
    have m8 := hF8 rfl
    have m9 := hF9 rfl
    have m10 := hF10 rfl
    have m11 := hF11 rfl
    have m12 := hF12 rfl
    have m13 := hF13 rfl
    have m14 := hF14 rfl
    have m15 := hF15 rfl
    have m16 := hF16 rfl
    have m17 := hF17 rfl
    have mN15x16 := hN15x16 rfl rfl
    have mN15x17 := hN15x17 rfl rfl
    have mN16x17 := hN16x17 rfl rfl
    clear hF0 hF1 hF2 hF3 hF4 hF5 hF6 hF7 hF8 hF9 hF10 hF11 hF12 hF13 hF14 hF15 hF16 hF17 hF18 hF19 hF20 hN15x16 hN15x17 hN16x17
    have hzI3 : w.heap.size ≤ w2.heap.size := hupw.size
    have hoI3 : (w.heap.size + 1) < w2.heap.size := hk3.lt
    replace hupw := hupw.trans hup
    clear hup
    obtain ⟨g3_15, s3_15, A3_15, n3_15, c3_15, t3_15, C3_15, m3_15, d3_15, rfl, hg3_15, hk3_15, he3_15⟩ := m15
    obtain rfl := he3_15 rfl
    clear he3_15
    have h3_15 := m4
    obtain ⟨g3_16, s3_16, A3_16, n3_16, c3_16, t3_16, C3_16, m3_16, d3_16, rfl, hg3_16, hk3_16, he3_16⟩ := m16
    obtain rfl := he3_16 rfl
    clear he3_16
    have h3_16 := m9
    obtain ⟨g3_17, s3_17, A3_17, n3_17, c3_17, t3_17, C3_17, m3_17, d3_17, rfl, hg3_17, hk3_17, he3_17⟩ := m17
    obtain rfl := he3_17 rfl
    clear he3_17
    have h3_17 := m14
    obtain rfl := m0
    obtain rfl := m1
    obtain rfl := m2
    obtain rfl := m3
    obtain rfl := m5
    obtain rfl := m6
    obtain rfl := m7
    obtain rfl := m8
    obtain rfl := m10
    obtain rfl := m11
    obtain rfl := m12
    obtain rfl := m13
    have hne3_15_16 : g3_15 ≠ g3_16 := fun e => mN15x16 (by rw [e])
    clear mN15x16
    have hne3_15_17 : g3_15 ≠ g3_17 := fun e => mN15x17 (by rw [e])
    clear mN15x17
    have hne3_16_17 : g3_16 ≠ g3_17 := fun e => mN16x17 (by rw [e])
    clear mN16x17
    have hk3_15c0 := hk3_15.cell (i := 0) rfl
    have hk3_15c1 := hk3_15.cell (i := 1) rfl
    have hk3_15c2 := hk3_15.cell (i := 2) rfl
    have hk3_15c3 := hk3_15.cell (i := 3) rfl
    have hk3_15l := hk3_15.lt
    have hk3_16c0 := hk3_16.cell (i := 0) rfl
    have hk3_16c1 := hk3_16.cell (i := 1) rfl
    have hk3_16c2 := hk3_16.cell (i := 2) rfl
    have hk3_16c3 := hk3_16.cell (i := 3) rfl
    have hk3_16l := hk3_16.lt
    go_wp2_with fail
    clear hk3_15c0 hk3_15c1 hk3_15c2 hk3_15c3 hk3_15l hk3_16c0 hk3_16c1 hk3_16c2 hk3_16c3 hk3_16l
    refine (cmpOK h3_15 h3_16 x e1).mono ?_
    rintro e w3 ⟨rfl, hup⟩
    replace hk3_15 := hk3_15.up hup
    replace hk3_16 := hk3_16.up hup
    replace hk3_17 := hk3_17.up hup
    replace h3_15 := h3_15.up hup
    replace h3_16 := h3_16.up hup
    replace h3_17 := h3_17.up hup
    replace hupw := hupw.trans hup
    clear hup
    have hk3_16c0 := hk3_16.cell (i := 0) rfl
    have hk3_16c1 := hk3_16.cell (i := 1) rfl
    have hk3_16c2 := hk3_16.cell (i := 2) rfl
    have hk3_16c3 := hk3_16.cell (i := 3) rfl
    have hk3_16l := hk3_16.lt
    have hk3_17c0 := hk3_17.cell (i := 0) rfl
    have hk3_17c1 := hk3_17.cell (i := 1) rfl
    have hk3_17c2 := hk3_17.cell (i := 2) rfl
    have hk3_17c3 := hk3_17.cell (i := 3) rfl
    have hk3_17l := hk3_17.lt
    go_wp2_with fail
    clear hk3_16c0 hk3_16c1 hk3_16c2 hk3_16c3 hk3_16l hk3_17c0 hk3_17c1 hk3_17c2 hk3_17c3 hk3_17l
    refine (cmpOK h3_16 h3_17 y e2).mono ?_
    rintro e w4 ⟨rfl, hup⟩
    replace hk3_15 := hk3_15.up hup
    replace hk3_16 := hk3_16.up hup
    replace hk3_17 := hk3_17.up hup
    replace h3_15 := h3_15.up hup
    replace h3_16 := h3_16.up hup
    replace h3_17 := h3_17.up hup
    replace hupw := hupw.trans hup
    clear hup
    have hk3_15c0 := hk3_15.cell (i := 0) rfl
    have hk3_15c1 := hk3_15.cell (i := 1) rfl
    have hk3_15c2 := hk3_15.cell (i := 2) rfl
    have hk3_15c3 := hk3_15.cell (i := 3) rfl
    have hk3_15l := hk3_15.lt
    have hk3_17c0 := hk3_17.cell (i := 0) rfl
    have hk3_17c1 := hk3_17.cell (i := 1) rfl
    have hk3_17c2 := hk3_17.cell (i := 2) rfl
    have hk3_17c3 := hk3_17.cell (i := 3) rfl
    have hk3_17l := hk3_17.lt
    go_wp2_with fail
    clear hk3_15c0 hk3_15c1 hk3_15c2 hk3_15c3 hk3_15l hk3_17c0 hk3_17c1 hk3_17c2 hk3_17c3 hk3_17l
    refine (cmpOK h3_15 h3_17 z e3).mono ?_
    rintro e w5 ⟨rfl, hup⟩
    replace hk3_15 := hk3_15.up hup
    replace hk3_16 := hk3_16.up hup
    replace hk3_17 := hk3_17.up hup
    replace h3_15 := h3_15.up hup
    replace h3_16 := h3_16.up hup
    replace hupw := hupw.trans hup
    clear hup
    have hk3_15c0 := hk3_15.cell (i := 0) rfl
    have hk3_15c1 := hk3_15.cell (i := 1) rfl
    have hk3_15c2 := hk3_15.cell (i := 2) rfl
    have hk3_15c3 := hk3_15.cell (i := 3) rfl
    have hk3_15l := hk3_15.lt
    have hk3_16c0 := hk3_16.cell (i := 0) rfl
    have hk3_16c1 := hk3_16.cell (i := 1) rfl
    have hk3_16c2 := hk3_16.cell (i := 2) rfl
    have hk3_16c3 := hk3_16.cell (i := 3) rfl
    have hk3_16l := hk3_16.lt
    go_wp2_with fail
    clear hk3_15c0 hk3_15c1 hk3_15c2 hk3_15c3 hk3_15l hk3_16c0 hk3_16c1 hk3_16c2 hk3_16c3 hk3_16l
    refine (subOK h3_15 h3_16 e4).mono ?_
    rintro e w6 ⟨vf, rfl, hf, hup⟩
    replace hk3_15 := hk3_15.up hup
    replace hk3_16 := hk3_16.up hup
    replace hk3_17 := hk3_17.up hup
    replace hupw := hupw.trans hup
    clear hup
    obtain ⟨s_7, A_7, n_7, c_7, s_8, A_8, n_8, c_8, rfl, h_7, h_8⟩ := hf
    go_wp2_with fail
    obtain ⟨wa9, hwa9⟩ : ∃ x, x = (w6.alloc (.cells #[.bool s_7, .slice A_7 n_7 c_7, .bool s_8, .slice A_8 n_8 c_8] 29)) := ⟨_, rfl⟩
    have hup : Up w6 wa9 := by rw [hwa9]; exact ((Up.refl w6).alloc _)
    have howa9 : g3_15 < w6.heap.size := hk3_15.lt
    have howa9_1 : g3_16 < w6.heap.size := hk3_16.lt
    have howa9_2 : g3_17 < w6.heap.size := hk3_17.lt
    have hzwa9 : w.heap.size ≤ w6.heap.size := hupw.size
    replace h_7 := h_7.up hup
    replace hupw := hupw.trans hup
    clear hup
    have hk14 : Bk wa9 (w6.heap.size) 29 #[.bool s_7, .slice A_7 n_7 c_7, .bool s_8, .slice A_8 n_8 c_8] := by
      have := (Bk.new w6 29 #[.bool s_7, .slice A_7 n_7 c_7, .bool s_8, .slice A_8 n_8 c_8])
      rw [hwa9]; simpa using this
    rw [← hwa9]
    clear hwa9
    refine (rsignQ x h_7 e5).mono ?_
    rintro e w10 ⟨rfl, hup⟩
    replace hupw := hupw.trans hup
    clear hup
    go_wp2_with fail
    all_goals (go_ret; refine ⟨congrArg (fun b => Ending.returned (.bool b)) ?_, hupw⟩; have hf := HF.out; first | rfl | (simp <;> omega) | (exfalso; omega))
theorem cmpZ_le0 {X Y : Int} : cmpZ X Y ≤ 0 ↔ X ≤ Y := by unfold cmpZ; (repeat' split) <;> omega
theorem cmpZ_lt0 {X Y : Int} : cmpZ X Y < 0 ↔ X < Y := by unfold cmpZ; (repeat' split) <;> omega
theorem cmpZ_eq0 {X Y : Int} : cmpZ X Y = 0 ↔ X = Y := by unfold cmpZ; (repeat' split) <;> omega
theorem cmpZ_sign (X Y : Int) : (X - Y).sign = cmpZ X Y := by
  rcases Int.lt_trichotomy X Y with h | h | h
  · rw [Int.sign_eq_neg_one_of_neg (by omega)]; unfold cmpZ; rw [if_pos h]
  · rw [show X - Y = 0 by omega]; unfold cmpZ; rw [if_neg (by omega), if_neg (by omega)]; rfl
  · rw [Int.sign_eq_one_of_pos (by omega)]; unfold cmpZ; rw [if_neg (by omega), if_pos h]
theorem cmp_all (a b c : Rat) : 0 < cmpZ (nm a * dn b) (nm b * dn a) ∨ 0 < cmpZ (nm b * dn c) (nm c * dn b) ∨ (cmpZ (nm a * dn c) (nm c * dn a) < 0 ∨ (cmpZ (nm a * dn c) (nm c * dn a) = 0 ∧ cmpZ (nm a * dn b) (nm b * dn a) = 0 ∧ cmpZ (nm b * dn c) (nm c * dn b) = 0)) := by
  by_cases h1 : cmpZ (nm a * dn b) (nm b * dn a) ≤ 0
  · by_cases h2 : cmpZ (nm b * dn c) (nm c * dn b) ≤ 0
    · have k1 := cmpZ_le0.1 h1
      have k2 := cmpZ_le0.1 h2
      have k3 := cross_trans a b c k1 k2
      by_cases h3 : nm a * dn c < nm c * dn a
      · exact .inr (.inr (.inl (cmpZ_lt0.2 h3)))
      · obtain ⟨q1, q2⟩ := cross_same a b c k1 k2 h3
        exact .inr (.inr (.inr ⟨cmpZ_eq0.2 (by omega), cmpZ_eq0.2 q1, cmpZ_eq0.2 q2⟩))
    · exact .inr (.inl (by omega))
  · exact .inl (by omega)
theorem cmp_sm {a b : Rat} (h : Sm a 32768 256) (h' : Sm b 32768 256) : cmpV a b = cmpZ (nm a * dn b) (nm b * dn a) ∧ cmpE a b = 0 := by
  unfold cmpV cmpE
  rw [crossB_sm h h' (by decide) (by decide)]; exact ⟨rfl, rfl⟩
theorem orderW (n0 n1 n2 d0 d1 d2 : Int) (w : World) (hp : Pow w) (p0 : -32768 ≤ n0 ∧ n0 ≤ 32767) (p1 : -32768 ≤ n1 ∧ n1 ≤ 32767) (p2 : -32768 ≤ n2 ∧ n2 ≤ 32767) (s0 : 0 ≤ d0 ∧ d0 ≤ 255) (s1 : 0 ≤ d1 ∧ d1 ≤ 255) (s2 : 0 ≤ d2 ∧ d2 ≤ 255) :
    Calls Tryz.prog 7 #[.agg #[.int .i16 n0, .int .i16 n1, .int .i16 n2], .agg #[.int .u8 d0, .int .u8 d1, .int .u8 d2]] w fun e w' => e = .returned (.bool true) ∧ Up w w' := by
  obtain ⟨a, ha⟩ : ∃ a, a = fr n0 (d0 + 1) := ⟨_, rfl⟩
  obtain ⟨b, hb⟩ : ∃ b, b = fr n1 (d1 + 1) := ⟨_, rfl⟩
  obtain ⟨c, hc⟩ : ∃ c, c = fr n2 (d2 + 1) := ⟨_, rfl⟩
  have sa := smallS ha p0.1 p0.2 s0.1 s0.2
  have sb := smallS hb p1.1 p1.2 s1.1 s1.2
  have sc := smallS hc p2.1 p2.2 s2.1 s2.2
  exact order_ w hp p0.1 p0.2 p1.1 p1.2 p2.1 p2.2 s0.1 s0.2 s1.1 s1.2 s2.1 s2.2 ha hb hc (cmp_sm sa sb) (cmp_sm sb sc) (cmp_sm sa sc) (subR_sm sa sb (by decide) (by decide)) (by rw [sub_sign, cmpZ_sign]) (by simp) (cmp_all a b c)

end Go.Proofs.YtldifgfpecicnaaGreatDoor
