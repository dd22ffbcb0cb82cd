/- The laws of fractions. -/
import Derived.Test.YtldifgfpecicnaaGreatDoorSm
namespace Go.Proofs.YtldifgfpecicnaaGreatDoor
open Go.RowKit

set_option maxRecDepth 100000 in
set_option maxHeartbeats 8000000 in
theorem laws_0 {a b c : Rat} {n0 n1 d0 d1 d2 : Int} (w : World)  (hp : Pow w) (p0 : -32768 ≤ n0) (q0 : n0 ≤ 32767) (p1 : -32768 ≤ n1) (q1 : n1 ≤ 32767) (s0 : 0 ≤ d0) (u0 : d0 ≤ 255) (s1 : 0 ≤ d1) (u1 : d1 ≤ 255) (s2 : 0 ≤ d2) (u2 : d2 ≤ 255) (Ha : Hid (a = fr n0 (d0 + 1))) (Hb : Hid (b = fr n1 (d1 + 1))) (Hc : Hid (c = fr 0 (d2 + 1))) (e1 : Hid (addR a b = okR (a + b))) (e2 : Hid (addR b a = okR (a + b))) (e3 : Hid (subR (a + b) b = okR a)) (e4 : Hid (mulR a c = okR (a * c))) (e5 : Hid (mulR b c = okR (b * c))) (e6 : Hid (addR (a * c) (b * c) = okR ((a + b) * c))) (e7 : Hid (mulR (a + b) c = okR ((a + b) * c))) (e8 : Hid (divR (a * c) c = noR 8)) :
    Calls Tryz.prog 6 #[.agg #[.int .i16 n0, .int .i16 n1, .int .i16 0], .agg #[.int .u8 d0, .int .u8 d1, .int .u8 d2]] w (PB w true) := by
  have hupw : Up w w := Up.refl w
  go_enter Tryz.func6, Tryz.ntmps6
  go_wp2_with fail
  obtain ⟨wa1, hwa1⟩ : ∃ x, x = ((w.alloc (.cells #[.int .i16 n0, .int .i16 n1, .int .i16 0] 54)).alloc (.cells #[.int .u8 d0, .int .u8 d1, .int .u8 d2] 55)) := ⟨_, rfl⟩
  have hup : Up w wa1 := by rw [hwa1]; exact (((Up.refl w).alloc _).alloc _)
  have hzwa1 : w.heap.size ≤ w.heap.size := hupw.size
  replace hupw := hupw.trans hup
  clear hup
  have hk2 : Bk wa1 (w.heap.size) 54 #[.int .i16 n0, .int .i16 n1, .int .i16 0] := by
    have := ((Bk.new w 54 #[.int .i16 n0, .int .i16 n1, .int .i16 0]).alloc (.cells #[.int .u8 d0, .int .u8 d1, .int .u8 d2] 55))
    rw [hwa1]; simpa using this
  have hk3 : Bk wa1 (w.heap.size + 1) 55 #[.int .u8 d0, .int .u8 d1, .int .u8 d2] := by
    have := (Bk.new (w.alloc (.cells #[.int .i16 n0, .int .i16 n1, .int .i16 0] 54)) 55 #[.int .u8 d0, .int .u8 d1, .int .u8 d2])
    rw [hwa1]; simpa using this
  rw [← hwa1]
  clear hwa1
  refine (awakeQ (hp.up hupw)).mono ?_
  rintro e w2 ⟨rfl, hup⟩
  replace hk2 := hk2.up hup
  replace hk3 := hk3.up hup
  replace hupw := hupw.trans hup
  clear hup
  go_wp2_with fail
  refine region_inv (fun lz az W => ∃ (b0 b1 b2 b3 b4 b5 b6 b7 b8 b9 b10 b11 b12 b13 b14 b15 b16 b17 b18 b19 b20 : Bool) (x3_0 x3_1 x3_2 x3_3 x3_4 x3_5 x3_6 x3_7 x3_8 x3_9 x3_10 x3_11 x3_12 x3_13 x3_14 x3_15 x3_16 x3_17 : Value), lz = #[b0, b1, b2, b3, b4, b5, b6, b7, b8, b9, b10, b11, b12, b13, b14, b15, b16, b17, b18, b19, b20] ∧ az = { tmps := #[.agg #[.int .i16 n0, .int .i16 n1, .int .i16 0], .agg #[.int .u8 d0, .int .u8 d1, .int .u8 d2], .pointer (some ⟨w.heap.size, 0, none⟩), .pointer (some ⟨(w.heap.size + 1), 0, none⟩), .bool false, x3_15, x3_16, x3_17, undef, undef, undef, undef, undef, undef, undef, undef, undef, undef, undef, undef, undef, undef, undef, undef, .bool true, .bool false, x3_0, x3_1, x3_2, x3_3, x3_4, x3_5, x3_6, x3_7, x3_8, x3_9, x3_10, x3_11, x3_12, x3_13, x3_14, undef, undef, undef, undef, undef, undef, undef, undef, undef, undef, undef, undef, undef, undef, undef, undef, undef, undef, undef, undef, undef, undef, undef, undef, undef, undef, undef, undef, undef, undef, undef, undef, undef, undef, undef, undef, undef, undef, undef, undef, undef, undef, undef, undef, undef, undef, undef, undef, undef, undef, undef, undef, undef, undef, undef, undef, undef, undef, undef, undef, undef, undef, undef, undef, undef, undef, undef, undef, undef, undef, undef, undef, undef, undef, undef, undef, undef, undef, undef, undef, undef, undef, undef, undef, undef, undef, undef, undef, undef, undef, undef, undef, undef, undef, undef, undef, undef, undef, undef, undef, undef, undef, undef, undef], defers := [] } ∧ Up w2 W ∧ (b0 = true → x3_0 = .pointer (some ⟨w.heap.size, 0, none⟩)) ∧ (b1 = true → x3_1 = .int .i16 n0) ∧ (b2 = true → x3_2 = .pointer (some ⟨(w.heap.size + 1), 0, none⟩)) ∧ (b3 = true → x3_3 = .int .u8 d0) ∧ (b4 = true → Rz W x3_4 a) ∧ (b5 = true → x3_5 = .pointer (some ⟨w.heap.size, 1, none⟩)) ∧ (b6 = true → x3_6 = .int .i16 n1) ∧ (b7 = true → x3_7 = .pointer (some ⟨(w.heap.size + 1), 1, none⟩)) ∧ (b8 = true → x3_8 = .int .u8 d1) ∧ (b9 = true → Rz W x3_9 b) ∧ (b10 = true → x3_10 = .pointer (some ⟨w.heap.size, 2, none⟩)) ∧ (b11 = true → x3_11 = .int .i16 0) ∧ (b12 = true → x3_12 = .pointer (some ⟨(w.heap.size + 1), 2, none⟩)) ∧ (b13 = true → x3_13 = .int .u8 d2) ∧ (b14 = true → Rz W x3_14 c) ∧ (b15 = true → B4 (w2.heap.size) W x3_15 b18 x3_4) ∧ (b16 = true → B4 (w2.heap.size) W x3_16 b19 x3_9) ∧ (b17 = true → B4 (w2.heap.size) W x3_17 b20 x3_14) ∧ (b18 = true → b15 = true ∧ b4 = true) ∧ (b19 = true → b16 = true ∧ b9 = true) ∧ (b20 = true → b17 = true ∧ b14 = true) ∧ (b15 = true → b16 = true → x3_15 ≠ x3_16) ∧ (b15 = true → b17 = true → x3_15 ≠ x3_17) ∧ (b16 = true → b17 = true → x3_16 ≠ x3_17)) (by kernel_rfl) (by kernel_rfl) ?hs ?h0 ?hstep ?hQ
  case hs => rintro l a W ⟨b0, b1, b2, b3, b4, b5, b6, b7, b8, b9, b10, b11, b12, b13, b14, b15, b16, b17, b18, b19, b20, x3_0, x3_1, x3_2, x3_3, x3_4, x3_5, x3_6, x3_7, x3_8, x3_9, x3_10, x3_11, x3_12, x3_13, x3_14, x3_15, x3_16, x3_17, rfl, rfl, hup, hF0, hF1, hF2, hF3, hF4, hF5, hF6, hF7, hF8, hF9, hF10, hF11, hF12, hF13, hF14, hF15, hF16, hF17, hF18, hF19, hF20, hN15x16, hN15x17, hN16x17⟩; rfl
  case h0 => exact ⟨false, false, false, false, false, false, false, false, false, false, false, false, false, false, false, false, false, false, false, false, false, undef, undef, undef, undef, undef, undef, undef, undef, undef, undef, undef, undef, undef, undef, undef, undef, undef, undef, rfl, rfl, (Up.refl w2).drew, (fun h => by cases h), (fun h => by cases h), (fun h => by cases h), (fun h => by cases h), (fun h => by cases h), (fun h => by cases h), (fun h => by cases h), (fun h => by cases h), (fun h => by cases h), (fun h => by cases h), (fun h => by cases h), (fun h => by cases h), (fun h => by cases h), (fun h => by cases h), (fun h => by cases h), (fun h => by cases h), (fun h => by cases h), (fun h => by cases h), (fun h => by cases h), (fun h => by cases h), (fun h => by cases h), (fun h => by cases h), (fun h => by cases h), (fun h => by cases h)⟩
  case hstep =>
    rintro l a W ⟨b0, b1, b2, b3, b4, b5, b6, b7, b8, b9, b10, b11, b12, b13, b14, b15, b16, b17, b18, b19, b20, x3_0, x3_1, x3_2, x3_3, x3_4, x3_5, x3_6, x3_7, x3_8, x3_9, x3_10, x3_11, x3_12, x3_13, x3_14, x3_15, x3_16, x3_17, rfl, rfl, hup, hF0, hF1, hF2, hF3, hF4, hF5, hF6, hF7, hF8, hF9, hF10, hF11, hF12, hF13, hF14, hF15, hF16, hF17, hF18, hF19, hF20, hN15x16, hN15x17, hN16x17⟩ i hi
    have hlt : i < 21 := ready_lt hi
    have HF0 := hide hF0
    have HF1 := hide hF1
    have HF2 := hide hF2
    have HF3 := hide hF3
    have HF4 := hide hF4
    have HF5 := hide hF5
    have HF6 := hide hF6
    have HF7 := hide hF7
    have HF8 := hide hF8
    have HF9 := hide hF9
    have HF10 := hide hF10
    have HF11 := hide hF11
    have HF12 := hide hF12
    have HF13 := hide hF13
    have HF14 := hide hF14
    have HF15 := hide hF15
    have HF16 := hide hF16
    have HF17 := hide hF17
    have HF18 := hide hF18
    have HF19 := hide hF19
    have HF20 := hide hF20
    have HN15x16 := hide hN15x16
    have HN15x17 := hide hN15x17
    have HN16x17 := hide hN16x17
    clear hF0 hF1 hF2 hF3 hF4 hF5 hF6 hF7 hF8 hF9 hF10 hF11 hF12 hF13 hF14 hF15 hF16 hF17 hF18 hF19 hF20 hN15x16 hN15x17 hN16x17
    have hcase : i = 0 ∨ i = 1 ∨ i = 2 ∨ i = 3 ∨ i = 4 ∨ i = 5 ∨ i = 6 ∨ i = 7 ∨ i = 8 ∨ i = 9 ∨ i = 10 ∨ i = 11 ∨ i = 12 ∨ i = 13 ∨ i = 14 ∨ i = 15 ∨ i = 16 ∨ i = 17 ∨ i = 18 ∨ i = 19 ∨ i = 20 := by omega
    clear hlt
    rcases hcase with rfl | rfl | rfl | rfl | rfl | rfl | rfl | rfl | rfl | rfl | rfl | rfl | rfl | rfl | rfl | rfl | rfl | rfl | rfl | rfl | rfl
    · skip
      clear hi
      refine wpOp_step rfl (fun K hK => ?_)
      go_simp
      refine hK _ _ ?_
      clear hK K
      exact ⟨true, b1, b2, b3, b4, b5, b6, b7, b8, b9, b10, b11, b12, b13, b14, b15, b16, b17, b18, b19, b20, .pointer (some ⟨w.heap.size, 0, none⟩), x3_1, x3_2, x3_3, x3_4, x3_5, x3_6, x3_7, x3_8, x3_9, x3_10, x3_11, x3_12, x3_13, x3_14, x3_15, x3_16, x3_17, rfl, rfl, hup, (fun _ => rfl), HF1.out, HF2.out, HF3.out, HF4.out, HF5.out, HF6.out, HF7.out, HF8.out, HF9.out, HF10.out, HF11.out, HF12.out, HF13.out, HF14.out, HF15.out, HF16.out, HF17.out, HF18.out, HF19.out, HF20.out, HN15x16.out, HN15x17.out, HN16x17.out⟩
    · skip
      have kc0 := (hk2.up hup).cell (i := 0) rfl
      have hb : b0 = true := getB (l := [b0, b1, b2, b3, b4, b5, b6, b7, b8, b9, b10, b11, b12, b13, b14, b15, b16, b17, b18, b19, b20]) (ready_dep hi rfl 0 (by kernel_rfl)) rfl
      have hx := HF0.out hb
      clear hb
      subst hx
      clear hi
      refine wpOp_step rfl (fun K hK => ?_)
      go_simp
      refine hK _ _ ?_
      clear hK K
      exact ⟨b0, true, b2, b3, b4, b5, b6, b7, b8, b9, b10, b11, b12, b13, b14, b15, b16, b17, b18, b19, b20, .pointer (some ⟨w.heap.size, 0, none⟩), .int .i16 n0, x3_2, x3_3, x3_4, x3_5, x3_6, x3_7, x3_8, x3_9, x3_10, x3_11, x3_12, x3_13, x3_14, x3_15, x3_16, x3_17, rfl, rfl, hup, (fun _ => rfl), (fun _ => rfl), HF2.out, HF3.out, HF4.out, HF5.out, HF6.out, HF7.out, HF8.out, HF9.out, HF10.out, HF11.out, HF12.out, HF13.out, HF14.out, HF15.out, HF16.out, HF17.out, HF18.out, HF19.out, HF20.out, HN15x16.out, HN15x17.out, HN16x17.out⟩
    · skip
      clear hi
      refine wpOp_step rfl (fun K hK => ?_)
      go_simp
      refine hK _ _ ?_
      clear hK K
      exact ⟨b0, b1, true, b3, b4, b5, b6, b7, b8, b9, b10, b11, b12, b13, b14, b15, b16, b17, b18, b19, b20, x3_0, x3_1, .pointer (some ⟨(w.heap.size + 1), 0, none⟩), x3_3, x3_4, x3_5, x3_6, x3_7, x3_8, x3_9, x3_10, x3_11, x3_12, x3_13, x3_14, x3_15, x3_16, x3_17, rfl, rfl, hup, HF0.out, HF1.out, (fun _ => rfl), HF3.out, HF4.out, HF5.out, HF6.out, HF7.out, HF8.out, HF9.out, HF10.out, HF11.out, HF12.out, HF13.out, HF14.out, HF15.out, HF16.out, HF17.out, HF18.out, HF19.out, HF20.out, HN15x16.out, HN15x17.out, HN16x17.out⟩
    · skip
      have kc0 := (hk3.up hup).cell (i := 0) rfl
      have hb : b2 = true := getB (l := [b0, b1, b2, b3, b4, b5, b6, b7, b8, b9, b10, b11, b12, b13, b14, b15, b16, b17, b18, b19, b20]) (ready_dep hi rfl 2 (by kernel_rfl)) rfl
      have hx := HF2.out hb
      clear hb
      subst hx
      clear hi
      refine wpOp_step rfl (fun K hK => ?_)
      go_simp
      refine hK _ _ ?_
      clear hK K
      exact ⟨b0, b1, b2, true, b4, b5, b6, b7, b8, b9, b10, b11, b12, b13, b14, b15, b16, b17, b18, b19, b20, x3_0, x3_1, .pointer (some ⟨(w.heap.size + 1), 0, none⟩), .int .u8 d0, x3_4, x3_5, x3_6, x3_7, x3_8, x3_9, x3_10, x3_11, x3_12, x3_13, x3_14, x3_15, x3_16, x3_17, rfl, rfl, hup, HF0.out, HF1.out, (fun _ => rfl), (fun _ => rfl), HF4.out, HF5.out, HF6.out, HF7.out, HF8.out, HF9.out, HF10.out, HF11.out, HF12.out, HF13.out, HF14.out, HF15.out, HF16.out, HF17.out, HF18.out, HF19.out, HF20.out, HN15x16.out, HN15x17.out, HN16x17.out⟩
    · skip
      have hb : b1 = true := getB (l := [b0, b1, b2, b3, b4, b5, b6, b7, b8, b9, b10, b11, b12, b13, b14, b15, b16, b17, b18, b19, b20]) (ready_dep hi rfl 1 (by kernel_rfl)) rfl
      have hx := HF1.out hb
      clear hb
      subst hx
      have hb : b3 = true := getB (l := [b0, b1, b2, b3, b4, b5, b6, b7, b8, b9, b10, b11, b12, b13, b14, b15, b16, b17, b18, b19, b20]) (ready_dep hi rfl 3 (by kernel_rfl)) rfl
      have hx := HF3.out hb
      clear hb
      subst hx
      have hn := ready_not hi
      have hst18 : b18 = false := by
        cases e : b18 with
        | false => rfl
        | true => have h5 := (HF18.out e).2; rw [h5] at hn; cases hn
      have Hst18 := hide hst18
      clear hst18
      clear hn
      clear hi
      refine wpOp_step rfl (fun K hK => ?_)
      go_simp
      refine (smallR Ha.out p0 q0 s0 u0).mono ?_
      rintro e w1 ⟨v1, rfl, hv1, hup1⟩
      go_wp2_with fail
      exact ⟨b0, b1, b2, b3, true, b5, b6, b7, b8, b9, b10, b11, b12, b13, b14, b15, b16, b17, b18, b19, b20, x3_0, .int .i16 n0, x3_2, .int .u8 d0, v1, x3_5, x3_6, x3_7, x3_8, x3_9, x3_10, x3_11, x3_12, x3_13, x3_14, x3_15, x3_16, x3_17, rfl, rfl, hup.trans hup1, HF0.out, (fun _ => rfl), HF2.out, (fun _ => rfl), (fun _ => hv1), HF5.out, HF6.out, HF7.out, HF8.out, (fun h => (HF9.out h).up hup1), HF10.out, HF11.out, HF12.out, HF13.out, (fun h => (HF14.out h).up hup1), (fun h => ((HF15.out h).up hup1).unfilled Hst18.out _), (fun h => (HF16.out h).up hup1), (fun h => (HF17.out h).up hup1), (fun h => ⟨(HF18.out h).1, rfl⟩), HF19.out, HF20.out, HN15x16.out, HN15x17.out, HN16x17.out⟩
    · skip
      clear hi
      refine wpOp_step rfl (fun K hK => ?_)
      go_simp
      refine hK _ _ ?_
      clear hK K
      exact ⟨b0, b1, b2, b3, b4, true, b6, b7, b8, b9, b10, b11, b12, b13, b14, b15, b16, b17, b18, b19, b20, x3_0, x3_1, x3_2, x3_3, x3_4, .pointer (some ⟨w.heap.size, 1, none⟩), x3_6, x3_7, x3_8, x3_9, x3_10, x3_11, x3_12, x3_13, x3_14, x3_15, x3_16, x3_17, rfl, rfl, hup, HF0.out, HF1.out, HF2.out, HF3.out, HF4.out, (fun _ => rfl), HF6.out, HF7.out, HF8.out, HF9.out, HF10.out, HF11.out, HF12.out, HF13.out, HF14.out, HF15.out, HF16.out, HF17.out, HF18.out, HF19.out, HF20.out, HN15x16.out, HN15x17.out, HN16x17.out⟩
    · skip
      have kc1 := (hk2.up hup).cell (i := 1) rfl
      have hb : b5 = true := getB (l := [b0, b1, b2, b3, b4, b5, b6, b7, b8, b9, b10, b11, b12, b13, b14, b15, b16, b17, b18, b19, b20]) (ready_dep hi rfl 5 (by kernel_rfl)) rfl
      have hx := HF5.out hb
      clear hb
      subst hx
      clear hi
      refine wpOp_step rfl (fun K hK => ?_)
      go_simp
      refine hK _ _ ?_
      clear hK K
      exact ⟨b0, b1, b2, b3, b4, b5, true, b7, b8, b9, b10, b11, b12, b13, b14, b15, b16, b17, b18, b19, b20, x3_0, x3_1, x3_2, x3_3, x3_4, .pointer (some ⟨w.heap.size, 1, none⟩), .int .i16 n1, x3_7, x3_8, x3_9, x3_10, x3_11, x3_12, x3_13, x3_14, x3_15, x3_16, x3_17, rfl, rfl, hup, HF0.out, HF1.out, HF2.out, HF3.out, HF4.out, (fun _ => rfl), (fun _ => rfl), HF7.out, HF8.out, HF9.out, HF10.out, HF11.out, HF12.out, HF13.out, HF14.out, HF15.out, HF16.out, HF17.out, HF18.out, HF19.out, HF20.out, HN15x16.out, HN15x17.out, HN16x17.out⟩
    · skip
      clear hi
      refine wpOp_step rfl (fun K hK => ?_)
      go_simp
      refine hK _ _ ?_
      clear hK K
      exact ⟨b0, b1, b2, b3, b4, b5, b6, true, b8, b9, b10, b11, b12, b13, b14, b15, b16, b17, b18, b19, b20, x3_0, x3_1, x3_2, x3_3, x3_4, x3_5, x3_6, .pointer (some ⟨(w.heap.size + 1), 1, none⟩), x3_8, x3_9, x3_10, x3_11, x3_12, x3_13, x3_14, x3_15, x3_16, x3_17, rfl, rfl, hup, HF0.out, HF1.out, HF2.out, HF3.out, HF4.out, HF5.out, HF6.out, (fun _ => rfl), HF8.out, HF9.out, HF10.out, HF11.out, HF12.out, HF13.out, HF14.out, HF15.out, HF16.out, HF17.out, HF18.out, HF19.out, HF20.out, HN15x16.out, HN15x17.out, HN16x17.out⟩
    · skip
      have kc1 := (hk3.up hup).cell (i := 1) rfl
      have hb : b7 = true := getB (l := [b0, b1, b2, b3, b4, b5, b6, b7, b8, b9, b10, b11, b12, b13, b14, b15, b16, b17, b18, b19, b20]) (ready_dep hi rfl 7 (by kernel_rfl)) rfl
      have hx := HF7.out hb
      clear hb
      subst hx
      clear hi
      refine wpOp_step rfl (fun K hK => ?_)
      go_simp
      refine hK _ _ ?_
      clear hK K
      exact ⟨b0, b1, b2, b3, b4, b5, b6, b7, true, b9, b10, b11, b12, b13, b14, b15, b16, b17, b18, b19, b20, x3_0, x3_1, x3_2, x3_3, x3_4, x3_5, x3_6, .pointer (some ⟨(w.heap.size + 1), 1, none⟩), .int .u8 d1, x3_9, x3_10, x3_11, x3_12, x3_13, x3_14, x3_15, x3_16, x3_17, rfl, rfl, hup, HF0.out, HF1.out, HF2.out, HF3.out, HF4.out, HF5.out, HF6.out, (fun _ => rfl), (fun _ => rfl), HF9.out, HF10.out, HF11.out, HF12.out, HF13.out, HF14.out, HF15.out, HF16.out, HF17.out, HF18.out, HF19.out, HF20.out, HN15x16.out, HN15x17.out, HN16x17.out⟩
    · skip
      have hb : b6 = true := getB (l := [b0, b1, b2, b3, b4, b5, b6, b7, b8, b9, b10, b11, b12, b13, b14, b15, b16, b17, b18, b19, b20]) (ready_dep hi rfl 6 (by kernel_rfl)) rfl
      have hx := HF6.out hb
      clear hb
      subst hx
      have hb : b8 = true := getB (l := [b0, b1, b2, b3, b4, b5, b6, b7, b8, b9, b10, b11, b12, b13, b14, b15, b16, b17, b18, b19, b20]) (ready_dep hi rfl 8 (by kernel_rfl)) rfl
      have hx := HF8.out hb
      clear hb
      subst hx
      have hn := ready_not hi
      have hst19 : b19 = false := by
        cases e : b19 with
        | false => rfl
        | true => have h5 := (HF19.out e).2; rw [h5] at hn; cases hn
      have Hst19 := hide hst19
      clear hst19
      clear hn
      clear hi
      refine wpOp_step rfl (fun K hK => ?_)
      go_simp
      refine (smallR Hb.out p1 q1 s1 u1).mono ?_
      rintro e w1 ⟨v1, rfl, hv1, hup1⟩
      go_wp2_with fail
      exact ⟨b0, b1, b2, b3, b4, b5, b6, b7, b8, true, b10, b11, b12, b13, b14, b15, b16, b17, b18, b19, b20, x3_0, x3_1, x3_2, x3_3, x3_4, x3_5, .int .i16 n1, x3_7, .int .u8 d1, v1, x3_10, x3_11, x3_12, x3_13, x3_14, x3_15, x3_16, x3_17, rfl, rfl, hup.trans hup1, HF0.out, HF1.out, HF2.out, HF3.out, (fun h => (HF4.out h).up hup1), HF5.out, (fun _ => rfl), HF7.out, (fun _ => rfl), (fun _ => hv1), HF10.out, HF11.out, HF12.out, HF13.out, (fun h => (HF14.out h).up hup1), (fun h => (HF15.out h).up hup1), (fun h => ((HF16.out h).up hup1).unfilled Hst19.out _), (fun h => (HF17.out h).up hup1), HF18.out, (fun h => ⟨(HF19.out h).1, rfl⟩), HF20.out, HN15x16.out, HN15x17.out, HN16x17.out⟩
    · skip
      clear hi
      refine wpOp_step rfl (fun K hK => ?_)
      go_simp
      refine hK _ _ ?_
      clear hK K
      exact ⟨b0, b1, b2, b3, b4, b5, b6, b7, b8, b9, true, b11, b12, b13, b14, b15, b16, b17, b18, b19, b20, x3_0, x3_1, x3_2, x3_3, x3_4, x3_5, x3_6, x3_7, x3_8, x3_9, .pointer (some ⟨w.heap.size, 2, none⟩), x3_11, x3_12, x3_13, x3_14, x3_15, x3_16, x3_17, rfl, rfl, hup, HF0.out, HF1.out, HF2.out, HF3.out, HF4.out, HF5.out, HF6.out, HF7.out, HF8.out, HF9.out, (fun _ => rfl), HF11.out, HF12.out, HF13.out, HF14.out, HF15.out, HF16.out, HF17.out, HF18.out, HF19.out, HF20.out, HN15x16.out, HN15x17.out, HN16x17.out⟩
    · skip
      have kc2 := (hk2.up hup).cell (i := 2) rfl
      have hb : b10 = true := getB (l := [b0, b1, b2, b3, b4, b5, b6, b7, b8, b9, b10, b11, b12, b13, b14, b15, b16, b17, b18, b19, b20]) (ready_dep hi rfl 10 (by kernel_rfl)) rfl
      have hx := HF10.out hb
      clear hb
      subst hx
      clear hi
      refine wpOp_step rfl (fun K hK => ?_)
      go_simp
      refine hK _ _ ?_
      clear hK K
      exact ⟨b0, b1, b2, b3, b4, b5, b6, b7, b8, b9, b10, true, b12, b13, b14, b15, b16, b17, b18, b19, b20, x3_0, x3_1, x3_2, x3_3, x3_4, x3_5, x3_6, x3_7, x3_8, x3_9, .pointer (some ⟨w.heap.size, 2, none⟩), .int .i16 0, x3_12, x3_13, x3_14, x3_15, x3_16, x3_17, rfl, rfl, hup, HF0.out, HF1.out, HF2.out, HF3.out, HF4.out, HF5.out, HF6.out, HF7.out, HF8.out, HF9.out, (fun _ => rfl), (fun _ => rfl), HF12.out, HF13.out, HF14.out, HF15.out, HF16.out, HF17.out, HF18.out, HF19.out, HF20.out, HN15x16.out, HN15x17.out, HN16x17.out⟩
    · skip
      clear hi
      refine wpOp_step rfl (fun K hK => ?_)
      go_simp
      refine hK _ _ ?_
      clear hK K
      exact ⟨b0, b1, b2, b3, b4, b5, b6, b7, b8, b9, b10, b11, true, b13, b14, b15, b16, b17, b18, b19, b20, x3_0, x3_1, x3_2, x3_3, x3_4, x3_5, x3_6, x3_7, x3_8, x3_9, x3_10, x3_11, .pointer (some ⟨(w.heap.size + 1), 2, none⟩), x3_13, x3_14, x3_15, x3_16, x3_17, rfl, rfl, hup, HF0.out, HF1.out, HF2.out, HF3.out, HF4.out, HF5.out, HF6.out, HF7.out, HF8.out, HF9.out, HF10.out, HF11.out, (fun _ => rfl), HF13.out, HF14.out, HF15.out, HF16.out, HF17.out, HF18.out, HF19.out, HF20.out, HN15x16.out, HN15x17.out, HN16x17.out⟩
    · skip
      have kc2 := (hk3.up hup).cell (i := 2) rfl
      have hb : b12 = true := getB (l := [b0, b1, b2, b3, b4, b5, b6, b7, b8, b9, b10, b11, b12, b13, b14, b15, b16, b17, b18, b19, b20]) (ready_dep hi rfl 12 (by kernel_rfl)) rfl
      have hx := HF12.out hb
      clear hb
      subst hx
      clear hi
      refine wpOp_step rfl (fun K hK => ?_)
      go_simp
      refine hK _ _ ?_
      clear hK K
      exact ⟨b0, b1, b2, b3, b4, b5, b6, b7, b8, b9, b10, b11, b12, true, b14, b15, b16, b17, b18, b19, b20, x3_0, x3_1, x3_2, x3_3, x3_4, x3_5, x3_6, x3_7, x3_8, x3_9, x3_10, x3_11, .pointer (some ⟨(w.heap.size + 1), 2, none⟩), .int .u8 d2, x3_14, x3_15, x3_16, x3_17, rfl, rfl, hup, HF0.out, HF1.out, HF2.out, HF3.out, HF4.out, HF5.out, HF6.out, HF7.out, HF8.out, HF9.out, HF10.out, HF11.out, (fun _ => rfl), (fun _ => rfl), HF14.out, HF15.out, HF16.out, HF17.out, HF18.out, HF19.out, HF20.out, HN15x16.out, HN15x17.out, HN16x17.out⟩
    · skip
      have hb : b11 = true := getB (l := [b0, b1, b2, b3, b4, b5, b6, b7, b8, b9, b10, b11, b12, b13, b14, b15, b16, b17, b18, b19, b20]) (ready_dep hi rfl 11 (by kernel_rfl)) rfl
      have hx := HF11.out hb
      clear hb
      subst hx
      have hb : b13 = true := getB (l := [b0, b1, b2, b3, b4, b5, b6, b7, b8, b9, b10, b11, b12, b13, b14, b15, b16, b17, b18, b19, b20]) (ready_dep hi rfl 13 (by kernel_rfl)) rfl
      have hx := HF13.out hb
      clear hb
      subst hx
      have hn := ready_not hi
      have hst20 : b20 = false := by
        cases e : b20 with
        | false => rfl
        | true => have h5 := (HF20.out e).2; rw [h5] at hn; cases hn
      have Hst20 := hide hst20
      clear hst20
      clear hn
      clear hi
      refine wpOp_step rfl (fun K hK => ?_)
      go_simp
      refine (smallR Hc.out (by decide) (by decide) s2 u2).mono ?_
      rintro e w1 ⟨v1, rfl, hv1, hup1⟩
      go_wp2_with fail
      exact ⟨b0, b1, b2, b3, b4, b5, b6, b7, b8, b9, b10, b11, b12, b13, true, b15, b16, b17, b18, b19, b20, x3_0, x3_1, x3_2, x3_3, x3_4, x3_5, x3_6, x3_7, x3_8, x3_9, x3_10, .int .i16 0, x3_12, .int .u8 d2, v1, x3_15, x3_16, x3_17, rfl, rfl, hup.trans hup1, HF0.out, HF1.out, HF2.out, HF3.out, (fun h => (HF4.out h).up hup1), HF5.out, HF6.out, HF7.out, HF8.out, (fun h => (HF9.out h).up hup1), HF10.out, (fun _ => rfl), HF12.out, (fun _ => rfl), (fun _ => hv1), (fun h => (HF15.out h).up hup1), (fun h => (HF16.out h).up hup1), (fun h => ((HF17.out h).up hup1).unfilled Hst20.out _), HF18.out, HF19.out, (fun h => ⟨(HF20.out h).1, rfl⟩), HN15x16.out, HN15x17.out, HN16x17.out⟩
    · skip
      have hn := ready_not hi
      have hst18 : b18 = false := by
        cases e : b18 with
        | false => rfl
        | true => have h5 := (HF18.out e).1; rw [h5] at hn; cases hn
      have Hst18 := hide hst18
      clear hst18
      clear hn
      clear hi
      have hsz := hup.size
      have hupA := (Up.refl W).alloc (.cells #[.bool false, .slice none 0 0, .bool false, .slice none 0 0] 29)
      refine wpOp_step rfl (fun K hK => ?_)
      go_simp
      refine hK _ _ ?_
      clear hK K
      exact ⟨b0, b1, b2, b3, b4, b5, b6, b7, b8, b9, b10, b11, b12, b13, b14, true, b16, b17, b18, b19, b20, x3_0, x3_1, x3_2, x3_3, x3_4, x3_5, x3_6, x3_7, x3_8, x3_9, x3_10, x3_11, x3_12, x3_13, x3_14, .pointer (some ⟨W.heap.size, 0, none⟩), x3_16, x3_17, rfl, rfl, hup.trans hupA, HF0.out, HF1.out, HF2.out, HF3.out, (fun h => (HF4.out h).up hupA), HF5.out, HF6.out, HF7.out, HF8.out, (fun h => (HF9.out h).up hupA), HF10.out, HF11.out, HF12.out, HF13.out, (fun h => (HF14.out h).up hupA), (fun _ => by rw [Hst18.out]; exact B4.new _ W _ hsz), (fun h => (HF16.out h).up hupA), (fun h => (HF17.out h).up hupA), (fun h => ⟨rfl, (HF18.out h).2⟩), HF19.out, HF20.out, (fun _ h => (HF16.out h).ne_new.symm), (fun _ h => (HF17.out h).ne_new.symm), HN16x17.out⟩
    · skip
      have hn := ready_not hi
      have hst19 : b19 = false := by
        cases e : b19 with
        | false => rfl
        | true => have h5 := (HF19.out e).1; rw [h5] at hn; cases hn
      have Hst19 := hide hst19
      clear hst19
      clear hn
      clear hi
      have hsz := hup.size
      have hupA := (Up.refl W).alloc (.cells #[.bool false, .slice none 0 0, .bool false, .slice none 0 0] 29)
      refine wpOp_step rfl (fun K hK => ?_)
      go_simp
      refine hK _ _ ?_
      clear hK K
      exact ⟨b0, b1, b2, b3, b4, b5, b6, b7, b8, b9, b10, b11, b12, b13, b14, b15, true, b17, b18, b19, b20, x3_0, x3_1, x3_2, x3_3, x3_4, x3_5, x3_6, x3_7, x3_8, x3_9, x3_10, x3_11, x3_12, x3_13, x3_14, x3_15, .pointer (some ⟨W.heap.size, 0, none⟩), x3_17, rfl, rfl, hup.trans hupA, HF0.out, HF1.out, HF2.out, HF3.out, (fun h => (HF4.out h).up hupA), HF5.out, HF6.out, HF7.out, HF8.out, (fun h => (HF9.out h).up hupA), HF10.out, HF11.out, HF12.out, HF13.out, (fun h => (HF14.out h).up hupA), (fun h => (HF15.out h).up hupA), (fun _ => by rw [Hst19.out]; exact B4.new _ W _ hsz), (fun h => (HF17.out h).up hupA), HF18.out, (fun h => ⟨rfl, (HF19.out h).2⟩), HF20.out, (fun h _ => (HF15.out h).ne_new), HN15x17.out, (fun _ h => (HF17.out h).ne_new.symm)⟩
    · skip
      have hn := ready_not hi
      have hst20 : b20 = false := by
        cases e : b20 with
        | false => rfl
        | true => have h5 := (HF20.out e).1; rw [h5] at hn; cases hn
      have Hst20 := hide hst20
      clear hst20
      clear hn
      clear hi
      have hsz := hup.size
      have hupA := (Up.refl W).alloc (.cells #[.bool false, .slice none 0 0, .bool false, .slice none 0 0] 29)
      refine wpOp_step rfl (fun K hK => ?_)
      go_simp
      refine hK _ _ ?_
      clear hK K
      exact ⟨b0, b1, b2, b3, b4, b5, b6, b7, b8, b9, b10, b11, b12, b13, b14, b15, b16, true, b18, b19, b20, x3_0, x3_1, x3_2, x3_3, x3_4, x3_5, x3_6, x3_7, x3_8, x3_9, x3_10, x3_11, x3_12, x3_13, x3_14, x3_15, x3_16, .pointer (some ⟨W.heap.size, 0, none⟩), rfl, rfl, hup.trans hupA, HF0.out, HF1.out, HF2.out, HF3.out, (fun h => (HF4.out h).up hupA), HF5.out, HF6.out, HF7.out, HF8.out, (fun h => (HF9.out h).up hupA), HF10.out, HF11.out, HF12.out, HF13.out, (fun h => (HF14.out h).up hupA), (fun h => (HF15.out h).up hupA), (fun h => (HF16.out h).up hupA), (fun _ => by rw [Hst20.out]; exact B4.new _ W _ hsz), HF18.out, HF19.out, (fun h => ⟨rfl, (HF20.out h).2⟩), HN15x16.out, (fun h _ => (HF15.out h).ne_new), (fun h _ => (HF16.out h).ne_new)⟩
    · skip
      have hb2 : b15 = true := getB (l := [b0, b1, b2, b3, b4, b5, b6, b7, b8, b9, b10, b11, b12, b13, b14, b15, b16, b17, b18, b19, b20]) (ready_dep hi rfl 15 (by kernel_rfl)) rfl
      have hb1 : b4 = true := getB (l := [b0, b1, b2, b3, b4, b5, b6, b7, b8, b9, b10, b11, b12, b13, b14, b15, b16, b17, b18, b19, b20]) (ready_dep hi rfl 4 (by kernel_rfl)) rfl
      clear hi
      obtain ⟨s9, A9, n9, c9, t9, C9, m9, d9, hxc⟩ := (HF4.out hb1).agg4
      subst hxc
      obtain ⟨g, s8, A8, n8, c8, t8, C8, m8, d8, hxb, hgB, hbk, _⟩ := HF15.out hb2
      subst hxb
      have f0 := hbk.cell (i := 0) rfl
      have z0 := hbk.frozen 0
      have f1 := hbk.cell (i := 1) rfl
      have z1 := hbk.frozen 1
      have f2 := hbk.cell (i := 2) rfl
      have z2 := hbk.frozen 2
      have f3 := hbk.cell (i := 3) rfl
      have z3 := hbk.frozen 3
      have Hb1 := hide hb1
      have Hb2 := hide hb2
      have hsz := hup.size
      clear hb1 hb2
      refine wpOp_step rfl (fun K hK => ?_)
      go_simp
      refine hK _ _ ?_
      clear hK K
      exact ⟨b0, b1, b2, b3, b4, b5, b6, b7, b8, b9, b10, b11, b12, b13, b14, b15, b16, b17, true, b19, b20, x3_0, x3_1, x3_2, x3_3, .agg #[.bool s9, .slice A9 n9 c9, .bool t9, .slice C9 m9 d9], x3_5, x3_6, x3_7, x3_8, x3_9, x3_10, x3_11, x3_12, x3_13, x3_14, .pointer (some ⟨g, 0, none⟩), x3_16, x3_17, rfl, rfl, hup.st4 (g := g) hgB _ _ _ _, HF0.out, HF1.out, HF2.out, HF3.out, (fun h => (HF4.out h).st4 hbk (noU4 _ _ _ _ _ _ _ _) _ _ _ _), HF5.out, HF6.out, HF7.out, HF8.out, (fun h => (HF9.out h).st4 hbk (noU4 _ _ _ _ _ _ _ _) _ _ _ _), HF10.out, HF11.out, HF12.out, HF13.out, (fun h => (HF14.out h).st4 hbk (noU4 _ _ _ _ _ _ _ _) _ _ _ _), (fun _ => hbk.fill4 hgB), (fun h => (HF16.out h).far ((HN15x16.out Hb2.out h).symm) _ _ _ _), (fun h => (HF17.out h).far ((HN15x17.out Hb2.out h).symm) _ _ _ _), (fun _ => ⟨Hb2.out, Hb1.out⟩), HF19.out, HF20.out, HN15x16.out, HN15x17.out, HN16x17.out⟩
    · skip
      have hb2 : b16 = true := getB (l := [b0, b1, b2, b3, b4, b5, b6, b7, b8, b9, b10, b11, b12, b13, b14, b15, b16, b17, b18, b19, b20]) (ready_dep hi rfl 16 (by kernel_rfl)) rfl
      have hb1 : b9 = true := getB (l := [b0, b1, b2, b3, b4, b5, b6, b7, b8, b9, b10, b11, b12, b13, b14, b15, b16, b17, b18, b19, b20]) (ready_dep hi rfl 9 (by kernel_rfl)) rfl
      clear hi
      obtain ⟨s9, A9, n9, c9, t9, C9, m9, d9, hxc⟩ := (HF9.out hb1).agg4
      subst hxc
      obtain ⟨g, s8, A8, n8, c8, t8, C8, m8, d8, hxb, hgB, hbk, _⟩ := HF16.out hb2
      subst hxb
      have f0 := hbk.cell (i := 0) rfl
      have z0 := hbk.frozen 0
      have f1 := hbk.cell (i := 1) rfl
      have z1 := hbk.frozen 1
      have f2 := hbk.cell (i := 2) rfl
      have z2 := hbk.frozen 2
      have f3 := hbk.cell (i := 3) rfl
      have z3 := hbk.frozen 3
      have Hb1 := hide hb1
      have Hb2 := hide hb2
      have hsz := hup.size
      clear hb1 hb2
      refine wpOp_step rfl (fun K hK => ?_)
      go_simp
      refine hK _ _ ?_
      clear hK K
      exact ⟨b0, b1, b2, b3, b4, b5, b6, b7, b8, b9, b10, b11, b12, b13, b14, b15, b16, b17, b18, true, b20, x3_0, x3_1, x3_2, x3_3, x3_4, x3_5, x3_6, x3_7, x3_8, .agg #[.bool s9, .slice A9 n9 c9, .bool t9, .slice C9 m9 d9], x3_10, x3_11, x3_12, x3_13, x3_14, x3_15, .pointer (some ⟨g, 0, none⟩), x3_17, rfl, rfl, hup.st4 (g := g) hgB _ _ _ _, HF0.out, HF1.out, HF2.out, HF3.out, (fun h => (HF4.out h).st4 hbk (noU4 _ _ _ _ _ _ _ _) _ _ _ _), HF5.out, HF6.out, HF7.out, HF8.out, (fun h => (HF9.out h).st4 hbk (noU4 _ _ _ _ _ _ _ _) _ _ _ _), HF10.out, HF11.out, HF12.out, HF13.out, (fun h => (HF14.out h).st4 hbk (noU4 _ _ _ _ _ _ _ _) _ _ _ _), (fun h => (HF15.out h).far (HN15x16.out h Hb2.out) _ _ _ _), (fun _ => hbk.fill4 hgB), (fun h => (HF17.out h).far ((HN16x17.out Hb2.out h).symm) _ _ _ _), HF18.out, (fun _ => ⟨Hb2.out, Hb1.out⟩), HF20.out, HN15x16.out, HN15x17.out, HN16x17.out⟩
    · skip
      have hb2 : b17 = true := getB (l := [b0, b1, b2, b3, b4, b5, b6, b7, b8, b9, b10, b11, b12, b13, b14, b15, b16, b17, b18, b19, b20]) (ready_dep hi rfl 17 (by kernel_rfl)) rfl
      have hb1 : b14 = true := getB (l := [b0, b1, b2, b3, b4, b5, b6, b7, b8, b9, b10, b11, b12, b13, b14, b15, b16, b17, b18, b19, b20]) (ready_dep hi rfl 14 (by kernel_rfl)) rfl
      clear hi
      obtain ⟨s9, A9, n9, c9, t9, C9, m9, d9, hxc⟩ := (HF14.out hb1).agg4
      subst hxc
      obtain ⟨g, s8, A8, n8, c8, t8, C8, m8, d8, hxb, hgB, hbk, _⟩ := HF17.out hb2
      subst hxb
      have f0 := hbk.cell (i := 0) rfl
      have z0 := hbk.frozen 0
      have f1 := hbk.cell (i := 1) rfl
      have z1 := hbk.frozen 1
      have f2 := hbk.cell (i := 2) rfl
      have z2 := hbk.frozen 2
      have f3 := hbk.cell (i := 3) rfl
      have z3 := hbk.frozen 3
      have Hb1 := hide hb1
      have Hb2 := hide hb2
      have hsz := hup.size
      clear hb1 hb2
      refine wpOp_step rfl (fun K hK => ?_)
      go_simp
      refine hK _ _ ?_
      clear hK K
      exact ⟨b0, b1, b2, b3, b4, b5, b6, b7, b8, b9, b10, b11, b12, b13, b14, b15, b16, b17, b18, b19, true, x3_0, x3_1, x3_2, x3_3, x3_4, x3_5, x3_6, x3_7, x3_8, x3_9, x3_10, x3_11, x3_12, x3_13, .agg #[.bool s9, .slice A9 n9 c9, .bool t9, .slice C9 m9 d9], x3_15, x3_16, .pointer (some ⟨g, 0, none⟩), rfl, rfl, hup.st4 (g := g) hgB _ _ _ _, HF0.out, HF1.out, HF2.out, HF3.out, (fun h => (HF4.out h).st4 hbk (noU4 _ _ _ _ _ _ _ _) _ _ _ _), HF5.out, HF6.out, HF7.out, HF8.out, (fun h => (HF9.out h).st4 hbk (noU4 _ _ _ _ _ _ _ _) _ _ _ _), HF10.out, HF11.out, HF12.out, HF13.out, (fun h => (HF14.out h).st4 hbk (noU4 _ _ _ _ _ _ _ _) _ _ _ _), (fun h => (HF15.out h).far (HN15x17.out h Hb2.out) _ _ _ _), (fun h => (HF16.out h).far (HN16x17.out h Hb2.out) _ _ _ _), (fun _ => hbk.fill4 hgB), HF18.out, HF19.out, (fun _ => ⟨Hb2.out, Hb1.out⟩), HN15x16.out, HN15x17.out, HN16x17.out⟩
  case hQ =>
    rintro l a W3_ ⟨b0, b1, b2, b3, b4, b5, b6, b7, b8, b9, b10, b11, b12, b13, b14, b15, b16, b17, b18, b19, b20, x3_0, x3_1, x3_2, x3_3, x3_4, x3_5, x3_6, x3_7, x3_8, x3_9, x3_10, x3_11, x3_12, x3_13, x3_14, x3_15, x3_16, x3_17, rfl, rfl, hup, hF0, hF1, hF2, hF3, hF4, hF5, hF6, hF7, hF8, hF9, hF10, hF11, hF12, hF13, hF14, hF15, hF16, hF17, hF18, hF19, hF20, hN15x16, hN15x17, hN16x17⟩ hall
    have hb0 : b0 = true := getB (l := [b0, b1, b2, b3, b4, b5, b6, b7, b8, b9, b10, b11, b12, b13, b14, b15, b16, b17, b18, b19, b20]) (hall 0 (by decide)) rfl
    have hb1 : b1 = true := getB (l := [b0, b1, b2, b3, b4, b5, b6, b7, b8, b9, b10, b11, b12, b13, b14, b15, b16, b17, b18, b19, b20]) (hall 1 (by decide)) rfl
    have hb2 : b2 = true := getB (l := [b0, b1, b2, b3, b4, b5, b6, b7, b8, b9, b10, b11, b12, b13, b14, b15, b16, b17, b18, b19, b20]) (hall 2 (by decide)) rfl
    have hb3 : b3 = true := getB (l := [b0, b1, b2, b3, b4, b5, b6, b7, b8, b9, b10, b11, b12, b13, b14, b15, b16, b17, b18, b19, b20]) (hall 3 (by decide)) rfl
    have hb4 : b4 = true := getB (l := [b0, b1, b2, b3, b4, b5, b6, b7, b8, b9, b10, b11, b12, b13, b14, b15, b16, b17, b18, b19, b20]) (hall 4 (by decide)) rfl
    have hb5 : b5 = true := getB (l := [b0, b1, b2, b3, b4, b5, b6, b7, b8, b9, b10, b11, b12, b13, b14, b15, b16, b17, b18, b19, b20]) (hall 5 (by decide)) rfl
    have hb6 : b6 = true := getB (l := [b0, b1, b2, b3, b4, b5, b6, b7, b8, b9, b10, b11, b12, b13, b14, b15, b16, b17, b18, b19, b20]) (hall 6 (by decide)) rfl
    have hb7 : b7 = true := getB (l := [b0, b1, b2, b3, b4, b5, b6, b7, b8, b9, b10, b11, b12, b13, b14, b15, b16, b17, b18, b19, b20]) (hall 7 (by decide)) rfl
    have hb8 : b8 = true := getB (l := [b0, b1, b2, b3, b4, b5, b6, b7, b8, b9, b10, b11, b12, b13, b14, b15, b16, b17, b18, b19, b20]) (hall 8 (by decide)) rfl
    have hb9 : b9 = true := getB (l := [b0, b1, b2, b3, b4, b5, b6, b7, b8, b9, b10, b11, b12, b13, b14, b15, b16, b17, b18, b19, b20]) (hall 9 (by decide)) rfl
    have hb10 : b10 = true := getB (l := [b0, b1, b2, b3, b4, b5, b6, b7, b8, b9, b10, b11, b12, b13, b14, b15, b16, b17, b18, b19, b20]) (hall 10 (by decide)) rfl
    have hb11 : b11 = true := getB (l := [b0, b1, b2, b3, b4, b5, b6, b7, b8, b9, b10, b11, b12, b13, b14, b15, b16, b17, b18, b19, b20]) (hall 11 (by decide)) rfl
    have hb12 : b12 = true := getB (l := [b0, b1, b2, b3, b4, b5, b6, b7, b8, b9, b10, b11, b12, b13, b14, b15, b16, b17, b18, b19, b20]) (hall 12 (by decide)) rfl
    have hb13 : b13 = true := getB (l := [b0, b1, b2, b3, b4, b5, b6, b7, b8, b9, b10, b11, b12, b13, b14, b15, b16, b17, b18, b19, b20]) (hall 13 (by decide)) rfl
    have hb14 : b14 = true := getB (l := [b0, b1, b2, b3, b4, b5, b6, b7, b8, b9, b10, b11, b12, b13, b14, b15, b16, b17, b18, b19, b20]) (hall 14 (by decide)) rfl
    have hb15 : b15 = true := getB (l := [b0, b1, b2, b3, b4, b5, b6, b7, b8, b9, b10, b11, b12, b13, b14, b15, b16, b17, b18, b19, b20]) (hall 15 (by decide)) rfl
    have hb16 : b16 = true := getB (l := [b0, b1, b2, b3, b4, b5, b6, b7, b8, b9, b10, b11, b12, b13, b14, b15, b16, b17, b18, b19, b20]) (hall 16 (by decide)) rfl
    have hb17 : b17 = true := getB (l := [b0, b1, b2, b3, b4, b5, b6, b7, b8, b9, b10, b11, b12, b13, b14, b15, b16, b17, b18, b19, b20]) (hall 17 (by decide)) rfl
    have hb18 : b18 = true := getB (l := [b0, b1, b2, b3, b4, b5, b6, b7, b8, b9, b10, b11, b12, b13, b14, b15, b16, b17, b18, b19, b20]) (hall 18 (by decide)) rfl
    have hb19 : b19 = true := getB (l := [b0, b1, b2, b3, b4, b5, b6, b7, b8, b9, b10, b11, b12, b13, b14, b15, b16, b17, b18, b19, b20]) (hall 19 (by decide)) rfl
    have hb20 : b20 = true := getB (l := [b0, b1, b2, b3, b4, b5, b6, b7, b8, b9, b10, b11, b12, b13, b14, b15, b16, b17, b18, b19, b20]) (hall 20 (by decide)) rfl
    subst hb0 hb1 hb2 hb3 hb4 hb5 hb6 hb7 hb8 hb9 hb10 hb11 hb12 hb13 hb14 hb15 hb16 hb17 hb18 hb19 hb20
    clear hall
    have m0 := hF0 rfl
    have m1 := hF1 rfl
    have m2 := hF2 rfl
    have m3 := hF3 rfl
    have m4 := hF4 rfl
    have m5 := hF5 rfl
    have m6 := hF6 rfl
    have m7 := hF7 rfl
    have m8 := hF8 rfl
    have m9 := hF9 rfl
    have m10 := hF10 rfl
    have m11 := hF11 rfl
    have m12 := hF12 rfl
    have m13 := hF13 rfl
    have m14 := hF14 rfl
    have m15 := hF15 rfl
    have m16 := hF16 rfl
    have m17 := hF17 rfl
    have mN15x16 := hN15x16 rfl rfl
    have mN15x17 := hN15x17 rfl rfl
    have mN16x17 := hN16x17 rfl rfl
    clear hF0 hF1 hF2 hF3 hF4 hF5 hF6 hF7 hF8 hF9 hF10 hF11 hF12 hF13 hF14 hF15 hF16 hF17 hF18 hF19 hF20 hN15x16 hN15x17 hN16x17
    have hzI3 : w.heap.size ≤ w2.heap.size := hupw.size
    have hoI3 : (w.heap.size + 1) < w2.heap.size := hk3.lt
    replace hk2 := hk2.up hup
    replace hupw := hupw.trans hup
    clear hup
    obtain ⟨g3_15, s3_15, A3_15, n3_15, c3_15, t3_15, C3_15, m3_15, d3_15, rfl, hg3_15, hk3_15, he3_15⟩ := m15
    obtain rfl := he3_15 rfl
    clear he3_15
    have h3_15 := m4
    obtain ⟨g3_16, s3_16, A3_16, n3_16, c3_16, t3_16, C3_16, m3_16, d3_16, rfl, hg3_16, hk3_16, he3_16⟩ := m16
    obtain rfl := he3_16 rfl
    clear he3_16
    have h3_16 := m9
    obtain ⟨g3_17, s3_17, A3_17, n3_17, c3_17, t3_17, C3_17, m3_17, d3_17, rfl, hg3_17, hk3_17, he3_17⟩ := m17
    obtain rfl := he3_17 rfl
    clear he3_17
    have h3_17 := m14
    obtain rfl := m0
    obtain rfl := m1
    obtain rfl := m2
    obtain rfl := m3
    obtain rfl := m5
    obtain rfl := m6
    obtain rfl := m7
    obtain rfl := m8
    obtain rfl := m10
    obtain rfl := m11
    obtain rfl := m12
    obtain rfl := m13
    have hne3_15_16 : g3_15 ≠ g3_16 := fun e => mN15x16 (by rw [e])
    clear mN15x16
    have hne3_15_17 : g3_15 ≠ g3_17 := fun e => mN15x17 (by rw [e])
    clear mN15x17
    have hne3_16_17 : g3_16 ≠ g3_17 := fun e => mN16x17 (by rw [e])
    clear mN16x17
    have hk3_15c0 := hk3_15.cell (i := 0) rfl
    have hk3_15c1 := hk3_15.cell (i := 1) rfl
    have hk3_15c2 := hk3_15.cell (i := 2) rfl
    have hk3_15c3 := hk3_15.cell (i := 3) rfl
    have hk3_15l := hk3_15.lt
    have hk3_16c0 := hk3_16.cell (i := 0) rfl
    have hk3_16c1 := hk3_16.cell (i := 1) rfl
    have hk3_16c2 := hk3_16.cell (i := 2) rfl
    have hk3_16c3 := hk3_16.cell (i := 3) rfl
    have hk3_16l := hk3_16.lt
    go_wp2_with fail
    clear hk3_15c0 hk3_15c1 hk3_15c2 hk3_15c3 hk3_15l hk3_16c0 hk3_16c1 hk3_16c2 hk3_16c3 hk3_16l
    refine (addOK h3_15 h3_16 e1).mono ?_
    rintro e w3 ⟨vf, rfl, hf, hup⟩
    replace hk2 := hk2.up hup
    replace hk3_15 := hk3_15.up hup
    replace hk3_16 := hk3_16.up hup
    replace hk3_17 := hk3_17.up hup
    replace h3_15 := h3_15.up hup
    replace h3_16 := h3_16.up hup
    replace h3_17 := h3_17.up hup
    replace hupw := hupw.trans hup
    clear hup
    obtain ⟨s_4, A_4, n_4, c_4, s_5, A_5, n_5, c_5, rfl, h_4, h_5⟩ := hf
    have hk3_16c0 := hk3_16.cell (i := 0) rfl
    have hk3_16c1 := hk3_16.cell (i := 1) rfl
    have hk3_16c2 := hk3_16.cell (i := 2) rfl
    have hk3_16c3 := hk3_16.cell (i := 3) rfl
    have hk3_16l := hk3_16.lt
    have hk3_15c0 := hk3_15.cell (i := 0) rfl
    have hk3_15c1 := hk3_15.cell (i := 1) rfl
    have hk3_15c2 := hk3_15.cell (i := 2) rfl
    have hk3_15c3 := hk3_15.cell (i := 3) rfl
    have hk3_15l := hk3_15.lt
    go_wp2_with fail
    clear hk3_16c0 hk3_16c1 hk3_16c2 hk3_16c3 hk3_16l hk3_15c0 hk3_15c1 hk3_15c2 hk3_15c3 hk3_15l
    obtain ⟨wa6, hwa6⟩ : ∃ x, x = (w3.alloc (.cells #[.bool s_4, .slice A_4 n_4 c_4, .bool s_5, .slice A_5 n_5 c_5] 29)) := ⟨_, rfl⟩
    have hup : Up w3 wa6 := by rw [hwa6]; exact ((Up.refl w3).alloc _)
    have howa6 : g3_15 < w3.heap.size := hk3_15.lt
    have howa6_1 : g3_16 < w3.heap.size := hk3_16.lt
    have howa6_2 : g3_17 < w3.heap.size := hk3_17.lt
    have hzwa6 : w.heap.size ≤ w3.heap.size := hupw.size
    replace hk2 := hk2.up hup
    replace hk3_15 := hk3_15.up hup
    replace hk3_16 := hk3_16.up hup
    replace hk3_17 := hk3_17.up hup
    replace h3_15 := h3_15.up hup
    replace h3_16 := h3_16.up hup
    replace h3_17 := h3_17.up hup
    replace h_4 := h_4.up hup
    replace h_5 := h_5.up hup
    replace hupw := hupw.trans hup
    clear hup
    have hk8 : Bk wa6 (w3.heap.size) 29 #[.bool s_4, .slice A_4 n_4 c_4, .bool s_5, .slice A_5 n_5 c_5] := by
      have := (Bk.new w3 29 #[.bool s_4, .slice A_4 n_4 c_4, .bool s_5, .slice A_5 n_5 c_5])
      rw [hwa6]; simpa using this
    rw [← hwa6]
    clear hwa6
    refine (addOK h3_16 h3_15 e2).mono ?_
    rintro e w7 ⟨vf, rfl, hf, hup⟩
    replace hk2 := hk2.up hup
    replace hk3_15 := hk3_15.up hup
    replace hk3_16 := hk3_16.up hup
    replace hk3_17 := hk3_17.up hup
    replace hk8 := hk8.up hup
    replace h3_15 := h3_15.up hup
    replace h3_16 := h3_16.up hup
    replace h3_17 := h3_17.up hup
    replace h_4 := h_4.up hup
    replace h_5 := h_5.up hup
    replace hupw := hupw.trans hup
    clear hup
    obtain ⟨s_8, A_8, n_8, c_8, s_9, A_9, n_9, c_9, rfl, h_8, h_9⟩ := hf
    have hk8c0 := hk8.cell (i := 0) rfl
    have hk8c1 := hk8.cell (i := 1) rfl
    have hk8c2 := hk8.cell (i := 2) rfl
    have hk8c3 := hk8.cell (i := 3) rfl
    have hk8l := hk8.lt
    have hk3_16c0 := hk3_16.cell (i := 0) rfl
    have hk3_16c1 := hk3_16.cell (i := 1) rfl
    have hk3_16c2 := hk3_16.cell (i := 2) rfl
    have hk3_16c3 := hk3_16.cell (i := 3) rfl
    have hk3_16l := hk3_16.lt
    go_wp2_with fail
    clear hk8c0 hk8c1 hk8c2 hk8c3 hk8l hk3_16c0 hk3_16c1 hk3_16c2 hk3_16c3 hk3_16l
    obtain ⟨wa10, hwa10⟩ : ∃ x, x = (w7.alloc (.cells #[.bool s_8, .slice A_8 n_8 c_8, .bool s_9, .slice A_9 n_9 c_9] 29)) := ⟨_, rfl⟩
    have hup : Up w7 wa10 := by rw [hwa10]; exact ((Up.refl w7).alloc _)
    have howa10 : w3.heap.size < w7.heap.size := hk8.lt
    have hzwa10 : w.heap.size ≤ w7.heap.size := hupw.size
    replace hk2 := hk2.up hup
    replace hk3_15 := hk3_15.up hup
    replace hk3_16 := hk3_16.up hup
    replace hk3_17 := hk3_17.up hup
    replace hk8 := hk8.up hup
    replace h3_15 := h3_15.up hup
    replace h3_16 := h3_16.up hup
    replace h3_17 := h3_17.up hup
    replace h_4 := h_4.up hup
    replace h_5 := h_5.up hup
    replace h_8 := h_8.up hup
    replace h_9 := h_9.up hup
    replace hupw := hupw.trans hup
    clear hup
    have hk10 : Bk wa10 (w7.heap.size) 29 #[.bool s_8, .slice A_8 n_8 c_8, .bool s_9, .slice A_9 n_9 c_9] := by
      have := (Bk.new w7 29 #[.bool s_8, .slice A_8 n_8 c_8, .bool s_9, .slice A_9 n_9 c_9])
      rw [hwa10]; simpa using this
    rw [← hwa10]
    clear hwa10
    refine (subOK (Fz.mk h_4 h_5) h3_16 e3).mono ?_
    rintro e w11 ⟨vf, rfl, hf, hup⟩
    replace hk2 := hk2.up hup
    replace hk3_15 := hk3_15.up hup
    replace hk3_16 := hk3_16.up hup
    replace hk3_17 := hk3_17.up hup
    replace hk8 := hk8.up hup
    replace hk10 := hk10.up hup
    replace h3_15 := h3_15.up hup
    replace h3_16 := h3_16.up hup
    replace h3_17 := h3_17.up hup
    replace h_4 := h_4.up hup
    replace h_5 := h_5.up hup
    replace h_8 := h_8.up hup
    replace h_9 := h_9.up hup
    replace hupw := hupw.trans hup
    clear hup
    obtain ⟨s_12, A_12, n_12, c_12, s_13, A_13, n_13, c_13, rfl, h_12, h_13⟩ := hf
    have hk3_15c0 := hk3_15.cell (i := 0) rfl
    have hk3_15c1 := hk3_15.cell (i := 1) rfl
    have hk3_15c2 := hk3_15.cell (i := 2) rfl
    have hk3_15c3 := hk3_15.cell (i := 3) rfl
    have hk3_15l := hk3_15.lt
    have hk3_17c0 := hk3_17.cell (i := 0) rfl
    have hk3_17c1 := hk3_17.cell (i := 1) rfl
    have hk3_17c2 := hk3_17.cell (i := 2) rfl
    have hk3_17c3 := hk3_17.cell (i := 3) rfl
    have hk3_17l := hk3_17.lt
    go_wp2_with fail
    clear hk3_15c0 hk3_15c1 hk3_15c2 hk3_15c3 hk3_15l hk3_17c0 hk3_17c1 hk3_17c2 hk3_17c3 hk3_17l
    obtain ⟨wa14, hwa14⟩ : ∃ x, x = (w11.alloc (.cells #[.bool s_12, .slice A_12 n_12 c_12, .bool s_13, .slice A_13 n_13 c_13] 29)) := ⟨_, rfl⟩
    have hup : Up w11 wa14 := by rw [hwa14]; exact ((Up.refl w11).alloc _)
    have howa14 : w7.heap.size < w11.heap.size := hk10.lt
    have hzwa14 : w.heap.size ≤ w11.heap.size := hupw.size
    replace hk2 := hk2.up hup
    replace hk3_15 := hk3_15.up hup
    replace hk3_16 := hk3_16.up hup
    replace hk3_17 := hk3_17.up hup
    replace hk8 := hk8.up hup
    replace hk10 := hk10.up hup
    replace h3_15 := h3_15.up hup
    replace h3_16 := h3_16.up hup
    replace h3_17 := h3_17.up hup
    replace h_4 := h_4.up hup
    replace h_5 := h_5.up hup
    replace h_8 := h_8.up hup
    replace h_9 := h_9.up hup
    replace h_12 := h_12.up hup
    replace h_13 := h_13.up hup
    replace hupw := hupw.trans hup
    clear hup
    have hk12 : Bk wa14 (w11.heap.size) 29 #[.bool s_12, .slice A_12 n_12 c_12, .bool s_13, .slice A_13 n_13 c_13] := by
      have := (Bk.new w11 29 #[.bool s_12, .slice A_12 n_12 c_12, .bool s_13, .slice A_13 n_13 c_13])
      rw [hwa14]; simpa using this
    rw [← hwa14]
    clear hwa14
    refine (mulOK h3_15 h3_17 e4).mono ?_
    rintro e w15 ⟨vf, rfl, hf, hup⟩
    replace hk2 := hk2.up hup
    replace hk3_15 := hk3_15.up hup
    replace hk3_16 := hk3_16.up hup
    replace hk3_17 := hk3_17.up hup
    replace hk8 := hk8.up hup
    replace hk10 := hk10.up hup
    replace hk12 := hk12.up hup
    replace h3_15 := h3_15.up hup
    replace h3_16 := h3_16.up hup
    replace h3_17 := h3_17.up hup
    replace h_4 := h_4.up hup
    replace h_5 := h_5.up hup
    replace h_8 := h_8.up hup
    replace h_9 := h_9.up hup
    replace h_12 := h_12.up hup
    replace h_13 := h_13.up hup
    replace hupw := hupw.trans hup
    clear hup
    obtain ⟨s_16, A_16, n_16, c_16, s_17, A_17, n_17, c_17, rfl, h_16, h_17⟩ := hf
    have hk3_16c0 := hk3_16.cell (i := 0) rfl
    have hk3_16c1 := hk3_16.cell (i := 1) rfl
    have hk3_16c2 := hk3_16.cell (i := 2) rfl
    have hk3_16c3 := hk3_16.cell (i := 3) rfl
    have hk3_16l := hk3_16.lt
    have hk3_17c0 := hk3_17.cell (i := 0) rfl
    have hk3_17c1 := hk3_17.cell (i := 1) rfl
    have hk3_17c2 := hk3_17.cell (i := 2) rfl
    have hk3_17c3 := hk3_17.cell (i := 3) rfl
    have hk3_17l := hk3_17.lt
    go_wp2_with fail
    clear hk3_16c0 hk3_16c1 hk3_16c2 hk3_16c3 hk3_16l hk3_17c0 hk3_17c1 hk3_17c2 hk3_17c3 hk3_17l
    obtain ⟨wa18, hwa18⟩ : ∃ x, x = (w15.alloc (.cells #[.bool s_16, .slice A_16 n_16 c_16, .bool s_17, .slice A_17 n_17 c_17] 29)) := ⟨_, rfl⟩
    have hup : Up w15 wa18 := by rw [hwa18]; exact ((Up.refl w15).alloc _)
    have howa18 : w11.heap.size < w15.heap.size := hk12.lt
    have hzwa18 : w.heap.size ≤ w15.heap.size := hupw.size
    replace hk2 := hk2.up hup
    replace hk3_15 := hk3_15.up hup
    replace hk3_17 := hk3_17.up hup
    replace hk8 := hk8.up hup
    replace hk10 := hk10.up hup
    replace hk12 := hk12.up hup
    replace h3_15 := h3_15.up hup
    replace h3_16 := h3_16.up hup
    replace h3_17 := h3_17.up hup
    replace h_4 := h_4.up hup
    replace h_5 := h_5.up hup
    replace h_8 := h_8.up hup
    replace h_9 := h_9.up hup
    replace h_12 := h_12.up hup
    replace h_13 := h_13.up hup
    replace h_16 := h_16.up hup
    replace h_17 := h_17.up hup
    replace hupw := hupw.trans hup
    clear hup
    have hk14 : Bk wa18 (w15.heap.size) 29 #[.bool s_16, .slice A_16 n_16 c_16, .bool s_17, .slice A_17 n_17 c_17] := by
      have := (Bk.new w15 29 #[.bool s_16, .slice A_16 n_16 c_16, .bool s_17, .slice A_17 n_17 c_17])
      rw [hwa18]; simpa using this
    rw [← hwa18]
    clear hwa18
    refine (mulOK h3_16 h3_17 e5).mono ?_
    rintro e w19 ⟨vf, rfl, hf, hup⟩
    replace hk2 := hk2.up hup
    replace hk3_15 := hk3_15.up hup
    replace hk3_17 := hk3_17.up hup
    replace hk8 := hk8.up hup
    replace hk10 := hk10.up hup
    replace hk12 := hk12.up hup
    replace hk14 := hk14.up hup
    replace h3_15 := h3_15.up hup
    replace h3_17 := h3_17.up hup
    replace h_4 := h_4.up hup
    replace h_5 := h_5.up hup
    replace h_8 := h_8.up hup
    replace h_9 := h_9.up hup
    replace h_12 := h_12.up hup
    replace h_13 := h_13.up hup
    replace h_16 := h_16.up hup
    replace h_17 := h_17.up hup
    replace hupw := hupw.trans hup
    clear hup
    obtain ⟨s_20, A_20, n_20, c_20, s_21, A_21, n_21, c_21, rfl, h_20, h_21⟩ := hf
    have hk14c0 := hk14.cell (i := 0) rfl
    have hk14c1 := hk14.cell (i := 1) rfl
    have hk14c2 := hk14.cell (i := 2) rfl
    have hk14c3 := hk14.cell (i := 3) rfl
    have hk14l := hk14.lt
    go_wp2_with fail
    clear hk14c0 hk14c1 hk14c2 hk14c3 hk14l
    obtain ⟨wa22, hwa22⟩ : ∃ x, x = (w19.alloc (.cells #[.bool s_20, .slice A_20 n_20 c_20, .bool s_21, .slice A_21 n_21 c_21] 29)) := ⟨_, rfl⟩
    have hup : Up w19 wa22 := by rw [hwa22]; exact ((Up.refl w19).alloc _)
    have howa22 : w15.heap.size < w19.heap.size := hk14.lt
    have hzwa22 : w.heap.size ≤ w19.heap.size := hupw.size
    replace hk2 := hk2.up hup
    replace hk3_15 := hk3_15.up hup
    replace hk3_17 := hk3_17.up hup
    replace hk8 := hk8.up hup
    replace hk10 := hk10.up hup
    replace hk12 := hk12.up hup
    replace hk14 := hk14.up hup
    replace h3_15 := h3_15.up hup
    replace h3_17 := h3_17.up hup
    replace h_4 := h_4.up hup
    replace h_5 := h_5.up hup
    replace h_8 := h_8.up hup
    replace h_9 := h_9.up hup
    replace h_12 := h_12.up hup
    replace h_13 := h_13.up hup
    replace h_16 := h_16.up hup
    replace h_17 := h_17.up hup
    replace h_20 := h_20.up hup
    replace h_21 := h_21.up hup
    replace hupw := hupw.trans hup
    clear hup
    have hk16 : Bk wa22 (w19.heap.size) 29 #[.bool s_20, .slice A_20 n_20 c_20, .bool s_21, .slice A_21 n_21 c_21] := by
      have := (Bk.new w19 29 #[.bool s_20, .slice A_20 n_20 c_20, .bool s_21, .slice A_21 n_21 c_21])
      rw [hwa22]; simpa using this
    rw [← hwa22]
    clear hwa22
    refine (addOK (Fz.mk h_16 h_17) (Fz.mk h_20 h_21) e6).mono ?_
    rintro e w23 ⟨vf, rfl, hf, hup⟩
    replace hk2 := hk2.up hup
    replace hk3_15 := hk3_15.up hup
    replace hk3_17 := hk3_17.up hup
    replace hk8 := hk8.up hup
    replace hk10 := hk10.up hup
    replace hk12 := hk12.up hup
    replace hk14 := hk14.up hup
    replace hk16 := hk16.up hup
    replace h3_15 := h3_15.up hup
    replace h3_17 := h3_17.up hup
    replace h_4 := h_4.up hup
    replace h_5 := h_5.up hup
    replace h_8 := h_8.up hup
    replace h_9 := h_9.up hup
    replace h_12 := h_12.up hup
    replace h_13 := h_13.up hup
    replace h_16 := h_16.up hup
    replace h_17 := h_17.up hup
    replace hupw := hupw.trans hup
    clear hup
    obtain ⟨s_24, A_24, n_24, c_24, s_25, A_25, n_25, c_25, rfl, h_24, h_25⟩ := hf
    have hk8c0 := hk8.cell (i := 0) rfl
    have hk8c1 := hk8.cell (i := 1) rfl
    have hk8c2 := hk8.cell (i := 2) rfl
    have hk8c3 := hk8.cell (i := 3) rfl
    have hk8l := hk8.lt
    have hk3_17c0 := hk3_17.cell (i := 0) rfl
    have hk3_17c1 := hk3_17.cell (i := 1) rfl
    have hk3_17c2 := hk3_17.cell (i := 2) rfl
    have hk3_17c3 := hk3_17.cell (i := 3) rfl
    have hk3_17l := hk3_17.lt
    go_wp2_with fail
    clear hk8c0 hk8c1 hk8c2 hk8c3 hk8l hk3_17c0 hk3_17c1 hk3_17c2 hk3_17c3 hk3_17l
    obtain ⟨wa26, hwa26⟩ : ∃ x, x = (w23.alloc (.cells #[.bool s_24, .slice A_24 n_24 c_24, .bool s_25, .slice A_25 n_25 c_25] 29)) := ⟨_, rfl⟩
    have hup : Up w23 wa26 := by rw [hwa26]; exact ((Up.refl w23).alloc _)
    have howa26 : w19.heap.size < w23.heap.size := hk16.lt
    have hzwa26 : w.heap.size ≤ w23.heap.size := hupw.size
    replace hk2 := hk2.up hup
    replace hk3_15 := hk3_15.up hup
    replace hk3_17 := hk3_17.up hup
    replace hk8 := hk8.up hup
    replace hk10 := hk10.up hup
    replace hk12 := hk12.up hup
    replace hk14 := hk14.up hup
    replace h3_15 := h3_15.up hup
    replace h3_17 := h3_17.up hup
    replace h_4 := h_4.up hup
    replace h_5 := h_5.up hup
    replace h_8 := h_8.up hup
    replace h_9 := h_9.up hup
    replace h_12 := h_12.up hup
    replace h_13 := h_13.up hup
    replace h_16 := h_16.up hup
    replace h_17 := h_17.up hup
    replace h_24 := h_24.up hup
    replace h_25 := h_25.up hup
    replace hupw := hupw.trans hup
    clear hup
    have hk18 : Bk wa26 (w23.heap.size) 29 #[.bool s_24, .slice A_24 n_24 c_24, .bool s_25, .slice A_25 n_25 c_25] := by
      have := (Bk.new w23 29 #[.bool s_24, .slice A_24 n_24 c_24, .bool s_25, .slice A_25 n_25 c_25])
      rw [hwa26]; simpa using this
    rw [← hwa26]
    clear hwa26
    refine (mulOK (Fz.mk h_4 h_5) h3_17 e7).mono ?_
    rintro e w27 ⟨vf, rfl, hf, hup⟩
    replace hk2 := hk2.up hup
    replace hk3_15 := hk3_15.up hup
    replace hk3_17 := hk3_17.up hup
    replace hk8 := hk8.up hup
    replace hk10 := hk10.up hup
    replace hk12 := hk12.up hup
    replace hk14 := hk14.up hup
    replace hk18 := hk18.up hup
    replace h3_15 := h3_15.up hup
    replace h3_17 := h3_17.up hup
    replace h_4 := h_4.up hup
    replace h_5 := h_5.up hup
    replace h_8 := h_8.up hup
    replace h_9 := h_9.up hup
    replace h_12 := h_12.up hup
    replace h_13 := h_13.up hup
    replace h_16 := h_16.up hup
    replace h_17 := h_17.up hup
    replace h_24 := h_24.up hup
    replace h_25 := h_25.up hup
    replace hupw := hupw.trans hup
    clear hup
    obtain ⟨s_28, A_28, n_28, c_28, s_29, A_29, n_29, c_29, rfl, h_28, h_29⟩ := hf
    have hk8c0 := hk8.cell (i := 0) rfl
    have hk8c1 := hk8.cell (i := 1) rfl
    have hk8c2 := hk8.cell (i := 2) rfl
    have hk8c3 := hk8.cell (i := 3) rfl
    have hk8l := hk8.lt
    have hk10c0 := hk10.cell (i := 0) rfl
    have hk10c1 := hk10.cell (i := 1) rfl
    have hk10c2 := hk10.cell (i := 2) rfl
    have hk10c3 := hk10.cell (i := 3) rfl
    have hk10l := hk10.lt
    go_wp2_with fail
    clear hk8c0 hk8c1 hk8c2 hk8c3 hk8l hk10c0 hk10c1 hk10c2 hk10c3 hk10l
    obtain ⟨wa30, hwa30⟩ : ∃ x, x = (w27.alloc (.cells #[.bool s_28, .slice A_28 n_28 c_28, .bool s_29, .slice A_29 n_29 c_29] 29)) := ⟨_, rfl⟩
    have hup : Up w27 wa30 := by rw [hwa30]; exact ((Up.refl w27).alloc _)
    have howa30 : w23.heap.size < w27.heap.size := hk18.lt
    have hzwa30 : w.heap.size ≤ w27.heap.size := hupw.size
    replace hk2 := hk2.up hup
    replace hk3_15 := hk3_15.up hup
    replace hk3_17 := hk3_17.up hup
    replace hk12 := hk12.up hup
    replace hk14 := hk14.up hup
    replace hk18 := hk18.up hup
    replace h3_15 := h3_15.up hup
    replace h3_17 := h3_17.up hup
    replace h_4 := h_4.up hup
    replace h_5 := h_5.up hup
    replace h_8 := h_8.up hup
    replace h_9 := h_9.up hup
    replace h_12 := h_12.up hup
    replace h_13 := h_13.up hup
    replace h_16 := h_16.up hup
    replace h_17 := h_17.up hup
    replace h_24 := h_24.up hup
    replace h_25 := h_25.up hup
    replace h_28 := h_28.up hup
    replace h_29 := h_29.up hup
    replace hupw := hupw.trans hup
    clear hup
    have hk20 : Bk wa30 (w27.heap.size) 29 #[.bool s_28, .slice A_28 n_28 c_28, .bool s_29, .slice A_29 n_29 c_29] := by
      have := (Bk.new w27 29 #[.bool s_28, .slice A_28 n_28 c_28, .bool s_29, .slice A_29 n_29 c_29])
      rw [hwa30]; simpa using this
    rw [← hwa30]
    clear hwa30
    refine (requalF _ _ _ (Fz.mk h_4 h_5) (Fz.mk h_8 h_9)).mono ?_
    rintro e w31 ⟨rfl, hup⟩
    replace hk2 := hk2.up hup
    replace hk3_15 := hk3_15.up hup
    replace hk3_17 := hk3_17.up hup
    replace hk12 := hk12.up hup
    replace hk14 := hk14.up hup
    replace hk18 := hk18.up hup
    replace hk20 := hk20.up hup
    replace h3_15 := h3_15.up hup
    replace h3_17 := h3_17.up hup
    replace h_12 := h_12.up hup
    replace h_13 := h_13.up hup
    replace h_16 := h_16.up hup
    replace h_17 := h_17.up hup
    replace h_24 := h_24.up hup
    replace h_25 := h_25.up hup
    replace h_28 := h_28.up hup
    replace h_29 := h_29.up hup
    replace hupw := hupw.trans hup
    clear hup
    have hk12c0 := hk12.cell (i := 0) rfl
    have hk12c1 := hk12.cell (i := 1) rfl
    have hk12c2 := hk12.cell (i := 2) rfl
    have hk12c3 := hk12.cell (i := 3) rfl
    have hk12l := hk12.lt
    have hk3_15c0 := hk3_15.cell (i := 0) rfl
    have hk3_15c1 := hk3_15.cell (i := 1) rfl
    have hk3_15c2 := hk3_15.cell (i := 2) rfl
    have hk3_15c3 := hk3_15.cell (i := 3) rfl
    have hk3_15l := hk3_15.lt
    go_wp2_with fail
    clear hk12c0 hk12c1 hk12c2 hk12c3 hk12l hk3_15c0 hk3_15c1 hk3_15c2 hk3_15c3 hk3_15l
    refine (requalF _ _ _ (Fz.mk h_12 h_13) h3_15).mono ?_
    rintro e w32 ⟨rfl, hup⟩
    replace hk2 := hk2.up hup
    replace hk3_17 := hk3_17.up hup
    replace hk14 := hk14.up hup
    replace hk18 := hk18.up hup
    replace hk20 := hk20.up hup
    replace h3_17 := h3_17.up hup
    replace h_16 := h_16.up hup
    replace h_17 := h_17.up hup
    replace h_24 := h_24.up hup
    replace h_25 := h_25.up hup
    replace h_28 := h_28.up hup
    replace h_29 := h_29.up hup
    replace hupw := hupw.trans hup
    clear hup
    have hk18c0 := hk18.cell (i := 0) rfl
    have hk18c1 := hk18.cell (i := 1) rfl
    have hk18c2 := hk18.cell (i := 2) rfl
    have hk18c3 := hk18.cell (i := 3) rfl
    have hk18l := hk18.lt
    have hk20c0 := hk20.cell (i := 0) rfl
    have hk20c1 := hk20.cell (i := 1) rfl
    have hk20c2 := hk20.cell (i := 2) rfl
    have hk20c3 := hk20.cell (i := 3) rfl
    have hk20l := hk20.lt
    go_wp2_with fail
    clear hk18c0 hk18c1 hk18c2 hk18c3 hk18l hk20c0 hk20c1 hk20c2 hk20c3 hk20l
    refine (requalF _ _ _ (Fz.mk h_24 h_25) (Fz.mk h_28 h_29)).mono ?_
    rintro e w33 ⟨rfl, hup⟩
    replace hk2 := hk2.up hup
    replace hk3_17 := hk3_17.up hup
    replace hk14 := hk14.up hup
    replace hk20 := hk20.up hup
    replace h3_17 := h3_17.up hup
    replace h_16 := h_16.up hup
    replace h_17 := h_17.up hup
    replace hupw := hupw.trans hup
    clear hup
    have hk14c0 := hk14.cell (i := 0) rfl
    have hk14c1 := hk14.cell (i := 1) rfl
    have hk14c2 := hk14.cell (i := 2) rfl
    have hk14c3 := hk14.cell (i := 3) rfl
    have hk14l := hk14.lt
    have hk3_17c0 := hk3_17.cell (i := 0) rfl
    have hk3_17c1 := hk3_17.cell (i := 1) rfl
    have hk3_17c2 := hk3_17.cell (i := 2) rfl
    have hk3_17c3 := hk3_17.cell (i := 3) rfl
    have hk3_17l := hk3_17.lt
    go_wp2_with fail
    clear hk14c0 hk14c1 hk14c2 hk14c3 hk14l hk3_17c0 hk3_17c1 hk3_17c2 hk3_17c3 hk3_17l
    refine (divNO (Fz.mk h_16 h_17) h3_17 e8).mono ?_
    rintro e w34 ⟨vf, rfl, hf, hup⟩
    replace hk2 := hk2.up hup
    replace hk20 := hk20.up hup
    replace hupw := hupw.trans hup
    clear hup
    obtain ⟨s_35, A_35, n_35, c_35, s_36, A_36, n_36, c_36, rfl, h_35, h_36⟩ := hf
    have hk2c0 := hk2.cell (i := 0) rfl
    have hk2c1 := hk2.cell (i := 1) rfl
    have hk2c2 := hk2.cell (i := 2) rfl
    have hk2l := hk2.lt
    go_wp2_with fail
    clear hk2c0 hk2c1 hk2c2 hk2l
    obtain ⟨wa37, hwa37⟩ : ∃ x, x = (w34.alloc (.cells #[.bool s_35, .slice A_35 n_35 c_35, .bool s_36, .slice A_36 n_36 c_36] 29)) := ⟨_, rfl⟩
    have hup : Up w34 wa37 := by rw [hwa37]; exact ((Up.refl w34).alloc _)
    have howa37 : w27.heap.size < w34.heap.size := hk20.lt
    have hzwa37 : w.heap.size ≤ w34.heap.size := hupw.size
    replace hupw := hupw.trans hup
    clear hup
    have hk22 : Bk wa37 (w34.heap.size) 29 #[.bool s_35, .slice A_35 n_35 c_35, .bool s_36, .slice A_36 n_36 c_36] := by
      have := (Bk.new w34 29 #[.bool s_35, .slice A_35 n_35 c_35, .bool s_36, .slice A_36 n_36 c_36])
      rw [hwa37]; simpa using this
    rw [← hwa37]
    clear hwa37
    go_ret
    exact ⟨rfl, hupw⟩
set_option maxRecDepth 100000 in
set_option maxHeartbeats 8000000 in
theorem laws_n {a b c : Rat} {n0 n1 n2 d0 d1 d2 : Int} (w : World)  (hp : Pow w) (p0 : -32768 ≤ n0) (q0 : n0 ≤ 32767) (p1 : -32768 ≤ n1) (q1 : n1 ≤ 32767) (p2 : -32768 ≤ n2) (q2 : n2 ≤ 32767) (s0 : 0 ≤ d0) (u0 : d0 ≤ 255) (s1 : 0 ≤ d1) (u1 : d1 ≤ 255) (s2 : 0 ≤ d2) (u2 : d2 ≤ 255) (Ha : Hid (a = fr n0 (d0 + 1))) (Hb : Hid (b = fr n1 (d1 + 1))) (Hc : Hid (c = fr n2 (d2 + 1))) (e1 : Hid (addR a b = okR (a + b))) (e2 : Hid (addR b a = okR (a + b))) (e3 : Hid (subR (a + b) b = okR a)) (e4 : Hid (mulR a c = okR (a * c))) (e5 : Hid (mulR b c = okR (b * c))) (e6 : Hid (addR (a * c) (b * c) = okR ((a + b) * c))) (e7 : Hid (mulR (a + b) c = okR ((a + b) * c))) (e8 : Hid (divR (a * c) c = okR a)) (hn : ((n2 : Int) == 0) = false) :
    Calls Tryz.prog 6 #[.agg #[.int .i16 n0, .int .i16 n1, .int .i16 n2], .agg #[.int .u8 d0, .int .u8 d1, .int .u8 d2]] w (PB w true) := by
  have hupw : Up w w := Up.refl w
  go_enter Tryz.func6, Tryz.ntmps6
  go_wp2_with fail
  obtain ⟨wa1, hwa1⟩ : ∃ x, x = ((w.alloc (.cells #[.int .i16 n0, .int .i16 n1, .int .i16 n2] 54)).alloc (.cells #[.int .u8 d0, .int .u8 d1, .int .u8 d2] 55)) := ⟨_, rfl⟩
  have hup : Up w wa1 := by rw [hwa1]; exact (((Up.refl w).alloc _).alloc _)
  have hzwa1 : w.heap.size ≤ w.heap.size := hupw.size
  replace hupw := hupw.trans hup
  clear hup
  have hk2 : Bk wa1 (w.heap.size) 54 #[.int .i16 n0, .int .i16 n1, .int .i16 n2] := by
    have := ((Bk.new w 54 #[.int .i16 n0, .int .i16 n1, .int .i16 n2]).alloc (.cells #[.int .u8 d0, .int .u8 d1, .int .u8 d2] 55))
    rw [hwa1]; simpa using this
  have hk3 : Bk wa1 (w.heap.size + 1) 55 #[.int .u8 d0, .int .u8 d1, .int .u8 d2] := by
    have := (Bk.new (w.alloc (.cells #[.int .i16 n0, .int .i16 n1, .int .i16 n2] 54)) 55 #[.int .u8 d0, .int .u8 d1, .int .u8 d2])
    rw [hwa1]; simpa using this
  rw [← hwa1]
  clear hwa1
  refine (awakeQ (hp.up hupw)).mono ?_
  rintro e w2 ⟨rfl, hup⟩
  replace hk2 := hk2.up hup
  replace hk3 := hk3.up hup
  replace hupw := hupw.trans hup
  clear hup
  go_wp2_with fail
  refine region_inv (fun lz az W => ∃ (b0 b1 b2 b3 b4 b5 b6 b7 b8 b9 b10 b11 b12 b13 b14 b15 b16 b17 b18 b19 b20 : Bool) (x3_0 x3_1 x3_2 x3_3 x3_4 x3_5 x3_6 x3_7 x3_8 x3_9 x3_10 x3_11 x3_12 x3_13 x3_14 x3_15 x3_16 x3_17 : Value), lz = #[b0, b1, b2, b3, b4, b5, b6, b7, b8, b9, b10, b11, b12, b13, b14, b15, b16, b17, b18, b19, b20] ∧ az = { tmps := #[.agg #[.int .i16 n0, .int .i16 n1, .int .i16 n2], .agg #[.int .u8 d0, .int .u8 d1, .int .u8 d2], .pointer (some ⟨w.heap.size, 0, none⟩), .pointer (some ⟨(w.heap.size + 1), 0, none⟩), .bool false, x3_15, x3_16, x3_17, undef, undef, undef, undef, undef, undef, undef, undef, undef, undef, undef, undef, undef, undef, undef, undef, .bool true, .bool false, x3_0, x3_1, x3_2, x3_3, x3_4, x3_5, x3_6, x3_7, x3_8, x3_9, x3_10, x3_11, x3_12, x3_13, x3_14, undef, undef, undef, undef, undef, undef, undef, undef, undef, undef, undef, undef, undef, undef, undef, undef, undef, undef, undef, undef, undef, undef, undef, undef, undef, undef, undef, undef, undef, undef, undef, undef, undef, undef, undef, undef, undef, undef, undef, undef, undef, undef, undef, undef, undef, undef, undef, undef, undef, undef, undef, undef, undef, undef, undef, undef, undef, undef, undef, undef, undef, undef, undef, undef, undef, undef, undef, undef, undef, undef, undef, undef, undef, undef, undef, undef, undef, undef, undef, undef, undef, undef, undef, undef, undef, undef, undef, undef, undef, undef, undef, undef, undef, undef, undef, undef, undef, undef, undef, undef, undef, undef, undef, undef], defers := [] } ∧ Up w2 W ∧ (b0 = true → x3_0 = .pointer (some ⟨w.heap.size, 0, none⟩)) ∧ (b1 = true → x3_1 = .int .i16 n0) ∧ (b2 = true → x3_2 = .pointer (some ⟨(w.heap.size + 1), 0, none⟩)) ∧ (b3 = true → x3_3 = .int .u8 d0) ∧ (b4 = true → Rz W x3_4 a) ∧ (b5 = true → x3_5 = .pointer (some ⟨w.heap.size, 1, none⟩)) ∧ (b6 = true → x3_6 = .int .i16 n1) ∧ (b7 = true → x3_7 = .pointer (some ⟨(w.heap.size + 1), 1, none⟩)) ∧ (b8 = true → x3_8 = .int .u8 d1) ∧ (b9 = true → Rz W x3_9 b) ∧ (b10 = true → x3_10 = .pointer (some ⟨w.heap.size, 2, none⟩)) ∧ (b11 = true → x3_11 = .int .i16 n2) ∧ (b12 = true → x3_12 = .pointer (some ⟨(w.heap.size + 1), 2, none⟩)) ∧ (b13 = true → x3_13 = .int .u8 d2) ∧ (b14 = true → Rz W x3_14 c) ∧ (b15 = true → B4 (w2.heap.size) W x3_15 b18 x3_4) ∧ (b16 = true → B4 (w2.heap.size) W x3_16 b19 x3_9) ∧ (b17 = true → B4 (w2.heap.size) W x3_17 b20 x3_14) ∧ (b18 = true → b15 = true ∧ b4 = true) ∧ (b19 = true → b16 = true ∧ b9 = true) ∧ (b20 = true → b17 = true ∧ b14 = true) ∧ (b15 = true → b16 = true → x3_15 ≠ x3_16) ∧ (b15 = true → b17 = true → x3_15 ≠ x3_17) ∧ (b16 = true → b17 = true → x3_16 ≠ x3_17)) (by kernel_rfl) (by kernel_rfl) ?hs ?h0 ?hstep ?hQ
  case hs => rintro l a W ⟨b0, b1, b2, b3, b4, b5, b6, b7, b8, b9, b10, b11, b12, b13, b14, b15, b16, b17, b18, b19, b20, x3_0, x3_1, x3_2, x3_3, x3_4, x3_5, x3_6, x3_7, x3_8, x3_9, x3_10, x3_11, x3_12, x3_13, x3_14, x3_15, x3_16, x3_17, rfl, rfl, hup, hF0, hF1, hF2, hF3, hF4, hF5, hF6, hF7, hF8, hF9, hF10, hF11, hF12, hF13, hF14, hF15, hF16, hF17, hF18, hF19, hF20, hN15x16, hN15x17, hN16x17⟩; rfl
  case h0 => exact ⟨false, false, false, false, false, false, false, false, false, false, false, false, false, false, false, false, false, false, false, false, false, undef, undef, undef, undef, undef, undef, undef, undef, undef, undef, undef, undef, undef, undef, undef, undef, undef, undef, rfl, rfl, (Up.refl w2).drew, (fun h => by cases h), (fun h => by cases h), (fun h => by cases h), (fun h => by cases h), (fun h => by cases h), (fun h => by cases h), (fun h => by cases h), (fun h => by cases h), (fun h => by cases h), (fun h => by cases h), (fun h => by cases h), (fun h => by cases h), (fun h => by cases h), (fun h => by cases h), (fun h => by cases h), (fun h => by cases h), (fun h => by cases h), (fun h => by cases h), (fun h => by cases h), (fun h => by cases h), (fun h => by cases h), (fun h => by cases h), (fun h => by cases h), (fun h => by cases h)⟩
  case hstep =>
    rintro l a W ⟨b0, b1, b2, b3, b4, b5, b6, b7, b8, b9, b10, b11, b12, b13, b14, b15, b16, b17, b18, b19, b20, x3_0, x3_1, x3_2, x3_3, x3_4, x3_5, x3_6, x3_7, x3_8, x3_9, x3_10, x3_11, x3_12, x3_13, x3_14, x3_15, x3_16, x3_17, rfl, rfl, hup, hF0, hF1, hF2, hF3, hF4, hF5, hF6, hF7, hF8, hF9, hF10, hF11, hF12, hF13, hF14, hF15, hF16, hF17, hF18, hF19, hF20, hN15x16, hN15x17, hN16x17⟩ i hi
    have hlt : i < 21 := ready_lt hi
    have HF0 := hide hF0
    have HF1 := hide hF1
    have HF2 := hide hF2
    have HF3 := hide hF3
    have HF4 := hide hF4
    have HF5 := hide hF5
    have HF6 := hide hF6
    have HF7 := hide hF7
    have HF8 := hide hF8
    have HF9 := hide hF9
    have HF10 := hide hF10
    have HF11 := hide hF11
    have HF12 := hide hF12
    have HF13 := hide hF13
    have HF14 := hide hF14
    have HF15 := hide hF15
    have HF16 := hide hF16
    have HF17 := hide hF17
    have HF18 := hide hF18
    have HF19 := hide hF19
    have HF20 := hide hF20
    have HN15x16 := hide hN15x16
    have HN15x17 := hide hN15x17
    have HN16x17 := hide hN16x17
    clear hF0 hF1 hF2 hF3 hF4 hF5 hF6 hF7 hF8 hF9 hF10 hF11 hF12 hF13 hF14 hF15 hF16 hF17 hF18 hF19 hF20 hN15x16 hN15x17 hN16x17
    have hcase : i = 0 ∨ i = 1 ∨ i = 2 ∨ i = 3 ∨ i = 4 ∨ i = 5 ∨ i = 6 ∨ i = 7 ∨ i = 8 ∨ i = 9 ∨ i = 10 ∨ i = 11 ∨ i = 12 ∨ i = 13 ∨ i = 14 ∨ i = 15 ∨ i = 16 ∨ i = 17 ∨ i = 18 ∨ i = 19 ∨ i = 20 := by omega
    clear hlt
    rcases hcase with rfl | rfl | rfl | rfl | rfl | rfl | rfl | rfl | rfl | rfl | rfl | rfl | rfl | rfl | rfl | rfl | rfl | rfl | rfl | rfl | rfl
    · skip
      clear hi
      refine wpOp_step rfl (fun K hK => ?_)
      go_simp
      refine hK _ _ ?_
      clear hK K
      exact ⟨true, b1, b2, b3, b4, b5, b6, b7, b8, b9, b10, b11, b12, b13, b14, b15, b16, b17, b18, b19, b20, .pointer (some ⟨w.heap.size, 0, none⟩), x3_1, x3_2, x3_3, x3_4, x3_5, x3_6, x3_7, x3_8, x3_9, x3_10, x3_11, x3_12, x3_13, x3_14, x3_15, x3_16, x3_17, rfl, rfl, hup, (fun _ => rfl), HF1.out, HF2.out, HF3.out, HF4.out, HF5.out, HF6.out, HF7.out, HF8.out, HF9.out, HF10.out, HF11.out, HF12.out, HF13.out, HF14.out, HF15.out, HF16.out, HF17.out, HF18.out, HF19.out, HF20.out, HN15x16.out, HN15x17.out, HN16x17.out⟩
    · skip
      have kc0 := (hk2.up hup).cell (i := 0) rfl
      have hb : b0 = true := getB (l := [b0, b1, b2, b3, b4, b5, b6, b7, b8, b9, b10, b11, b12, b13, b14, b15, b16, b17, b18, b19, b20]) (ready_dep hi rfl 0 (by kernel_rfl)) rfl
      have hx := HF0.out hb
      clear hb
      subst hx
      clear hi
      refine wpOp_step rfl (fun K hK => ?_)
      go_simp
      refine hK _ _ ?_
      clear hK K
      exact ⟨b0, true, b2, b3, b4, b5, b6, b7, b8, b9, b10, b11, b12, b13, b14, b15, b16, b17, b18, b19, b20, .pointer (some ⟨w.heap.size, 0, none⟩), .int .i16 n0, x3_2, x3_3, x3_4, x3_5, x3_6, x3_7, x3_8, x3_9, x3_10, x3_11, x3_12, x3_13, x3_14, x3_15, x3_16, x3_17, rfl, rfl, hup, (fun _ => rfl), (fun _ => rfl), HF2.out, HF3.out, HF4.out, HF5.out, HF6.out, HF7.out, HF8.out, HF9.out, HF10.out, HF11.out, HF12.out, HF13.out, HF14.out, HF15.out, HF16.out, HF17.out, HF18.out, HF19.out, HF20.out, HN15x16.out, HN15x17.out, HN16x17.out⟩
    · skip
      clear hi
      refine wpOp_step rfl (fun K hK => ?_)
      go_simp
      refine hK _ _ ?_
      clear hK K
      exact ⟨b0, b1, true, b3, b4, b5, b6, b7, b8, b9, b10, b11, b12, b13, b14, b15, b16, b17, b18, b19, b20, x3_0, x3_1, .pointer (some ⟨(w.heap.size + 1), 0, none⟩), x3_3, x3_4, x3_5, x3_6, x3_7, x3_8, x3_9, x3_10, x3_11, x3_12, x3_13, x3_14, x3_15, x3_16, x3_17, rfl, rfl, hup, HF0.out, HF1.out, (fun _ => rfl), HF3.out, HF4.out, HF5.out, HF6.out, HF7.out, HF8.out, HF9.out, HF10.out, HF11.out, HF12.out, HF13.out, HF14.out, HF15.out, HF16.out, HF17.out, HF18.out, HF19.out, HF20.out, HN15x16.out, HN15x17.out, HN16x17.out⟩
    · skip
      have kc0 := (hk3.up hup).cell (i := 0) rfl
      have hb : b2 = true := getB (l := [b0, b1, b2, b3, b4, b5, b6, b7, b8, b9, b10, b11, b12, b13, b14, b15, b16, b17, b18, b19, b20]) (ready_dep hi rfl 2 (by kernel_rfl)) rfl
      have hx := HF2.out hb
      clear hb
      subst hx
      clear hi
      refine wpOp_step rfl (fun K hK => ?_)
      go_simp
      refine hK _ _ ?_
      clear hK K
      exact ⟨b0, b1, b2, true, b4, b5, b6, b7, b8, b9, b10, b11, b12, b13, b14, b15, b16, b17, b18, b19, b20, x3_0, x3_1, .pointer (some ⟨(w.heap.size + 1), 0, none⟩), .int .u8 d0, x3_4, x3_5, x3_6, x3_7, x3_8, x3_9, x3_10, x3_11, x3_12, x3_13, x3_14, x3_15, x3_16, x3_17, rfl, rfl, hup, HF0.out, HF1.out, (fun _ => rfl), (fun _ => rfl), HF4.out, HF5.out, HF6.out, HF7.out, HF8.out, HF9.out, HF10.out, HF11.out, HF12.out, HF13.out, HF14.out, HF15.out, HF16.out, HF17.out, HF18.out, HF19.out, HF20.out, HN15x16.out, HN15x17.out, HN16x17.out⟩
    · skip
      have hb : b1 = true := getB (l := [b0, b1, b2, b3, b4, b5, b6, b7, b8, b9, b10, b11, b12, b13, b14, b15, b16, b17, b18, b19, b20]) (ready_dep hi rfl 1 (by kernel_rfl)) rfl
      have hx := HF1.out hb
      clear hb
      subst hx
      have hb : b3 = true := getB (l := [b0, b1, b2, b3, b4, b5, b6, b7, b8, b9, b10, b11, b12, b13, b14, b15, b16, b17, b18, b19, b20]) (ready_dep hi rfl 3 (by kernel_rfl)) rfl
      have hx := HF3.out hb
      clear hb
      subst hx
      have hn := ready_not hi
      have hst18 : b18 = false := by
        cases e : b18 with
        | false => rfl
        | true => have h5 := (HF18.out e).2; rw [h5] at hn; cases hn
      have Hst18 := hide hst18
      clear hst18
      clear hn
      clear hi
      refine wpOp_step rfl (fun K hK => ?_)
      go_simp
      refine (smallR Ha.out p0 q0 s0 u0).mono ?_
      rintro e w1 ⟨v1, rfl, hv1, hup1⟩
      go_wp2_with fail
      exact ⟨b0, b1, b2, b3, true, b5, b6, b7, b8, b9, b10, b11, b12, b13, b14, b15, b16, b17, b18, b19, b20, x3_0, .int .i16 n0, x3_2, .int .u8 d0, v1, x3_5, x3_6, x3_7, x3_8, x3_9, x3_10, x3_11, x3_12, x3_13, x3_14, x3_15, x3_16, x3_17, rfl, rfl, hup.trans hup1, HF0.out, (fun _ => rfl), HF2.out, (fun _ => rfl), (fun _ => hv1), HF5.out, HF6.out, HF7.out, HF8.out, (fun h => (HF9.out h).up hup1), HF10.out, HF11.out, HF12.out, HF13.out, (fun h => (HF14.out h).up hup1), (fun h => ((HF15.out h).up hup1).unfilled Hst18.out _), (fun h => (HF16.out h).up hup1), (fun h => (HF17.out h).up hup1), (fun h => ⟨(HF18.out h).1, rfl⟩), HF19.out, HF20.out, HN15x16.out, HN15x17.out, HN16x17.out⟩
    · skip
      clear hi
      refine wpOp_step rfl (fun K hK => ?_)
      go_simp
      refine hK _ _ ?_
      clear hK K
      exact ⟨b0, b1, b2, b3, b4, true, b6, b7, b8, b9, b10, b11, b12, b13, b14, b15, b16, b17, b18, b19, b20, x3_0, x3_1, x3_2, x3_3, x3_4, .pointer (some ⟨w.heap.size, 1, none⟩), x3_6, x3_7, x3_8, x3_9, x3_10, x3_11, x3_12, x3_13, x3_14, x3_15, x3_16, x3_17, rfl, rfl, hup, HF0.out, HF1.out, HF2.out, HF3.out, HF4.out, (fun _ => rfl), HF6.out, HF7.out, HF8.out, HF9.out, HF10.out, HF11.out, HF12.out, HF13.out, HF14.out, HF15.out, HF16.out, HF17.out, HF18.out, HF19.out, HF20.out, HN15x16.out, HN15x17.out, HN16x17.out⟩
    · skip
      have kc1 := (hk2.up hup).cell (i := 1) rfl
      have hb : b5 = true := getB (l := [b0, b1, b2, b3, b4, b5, b6, b7, b8, b9, b10, b11, b12, b13, b14, b15, b16, b17, b18, b19, b20]) (ready_dep hi rfl 5 (by kernel_rfl)) rfl
      have hx := HF5.out hb
      clear hb
      subst hx
      clear hi
      refine wpOp_step rfl (fun K hK => ?_)
      go_simp
      refine hK _ _ ?_
      clear hK K
      exact ⟨b0, b1, b2, b3, b4, b5, true, b7, b8, b9, b10, b11, b12, b13, b14, b15, b16, b17, b18, b19, b20, x3_0, x3_1, x3_2, x3_3, x3_4, .pointer (some ⟨w.heap.size, 1, none⟩), .int .i16 n1, x3_7, x3_8, x3_9, x3_10, x3_11, x3_12, x3_13, x3_14, x3_15, x3_16, x3_17, rfl, rfl, hup, HF0.out, HF1.out, HF2.out, HF3.out, HF4.out, (fun _ => rfl), (fun _ => rfl), HF7.out, HF8.out, HF9.out, HF10.out, HF11.out, HF12.out, HF13.out, HF14.out, HF15.out, HF16.out, HF17.out, HF18.out, HF19.out, HF20.out, HN15x16.out, HN15x17.out, HN16x17.out⟩
    · skip
      clear hi
      refine wpOp_step rfl (fun K hK => ?_)
      go_simp
      refine hK _ _ ?_
      clear hK K
      exact ⟨b0, b1, b2, b3, b4, b5, b6, true, b8, b9, b10, b11, b12, b13, b14, b15, b16, b17, b18, b19, b20, x3_0, x3_1, x3_2, x3_3, x3_4, x3_5, x3_6, .pointer (some ⟨(w.heap.size + 1), 1, none⟩), x3_8, x3_9, x3_10, x3_11, x3_12, x3_13, x3_14, x3_15, x3_16, x3_17, rfl, rfl, hup, HF0.out, HF1.out, HF2.out, HF3.out, HF4.out, HF5.out, HF6.out, (fun _ => rfl), HF8.out, HF9.out, HF10.out, HF11.out, HF12.out, HF13.out, HF14.out, HF15.out, HF16.out, HF17.out, HF18.out, HF19.out, HF20.out, HN15x16.out, HN15x17.out, HN16x17.out⟩
    · skip
      have kc1 := (hk3.up hup).cell (i := 1) rfl
      have hb : b7 = true := getB (l := [b0, b1, b2, b3, b4, b5, b6, b7, b8, b9, b10, b11, b12, b13, b14, b15, b16, b17, b18, b19, b20]) (ready_dep hi rfl 7 (by kernel_rfl)) rfl
      have hx := HF7.out hb
      clear hb
      subst hx
      clear hi
      refine wpOp_step rfl (fun K hK => ?_)
      go_simp
      refine hK _ _ ?_
      clear hK K
      exact ⟨b0, b1, b2, b3, b4, b5, b6, b7, true, b9, b10, b11, b12, b13, b14, b15, b16, b17, b18, b19, b20, x3_0, x3_1, x3_2, x3_3, x3_4, x3_5, x3_6, .pointer (some ⟨(w.heap.size + 1), 1, none⟩), .int .u8 d1, x3_9, x3_10, x3_11, x3_12, x3_13, x3_14, x3_15, x3_16, x3_17, rfl, rfl, hup, HF0.out, HF1.out, HF2.out, HF3.out, HF4.out, HF5.out, HF6.out, (fun _ => rfl), (fun _ => rfl), HF9.out, HF10.out, HF11.out, HF12.out, HF13.out, HF14.out, HF15.out, HF16.out, HF17.out, HF18.out, HF19.out, HF20.out, HN15x16.out, HN15x17.out, HN16x17.out⟩
    · skip
      have hb : b6 = true := getB (l := [b0, b1, b2, b3, b4, b5, b6, b7, b8, b9, b10, b11, b12, b13, b14, b15, b16, b17, b18, b19, b20]) (ready_dep hi rfl 6 (by kernel_rfl)) rfl
      have hx := HF6.out hb
      clear hb
      subst hx
      have hb : b8 = true := getB (l := [b0, b1, b2, b3, b4, b5, b6, b7, b8, b9, b10, b11, b12, b13, b14, b15, b16, b17, b18, b19, b20]) (ready_dep hi rfl 8 (by kernel_rfl)) rfl
      have hx := HF8.out hb
      clear hb
      subst hx
      have hn := ready_not hi
      have hst19 : b19 = false := by
        cases e : b19 with
        | false => rfl
        | true => have h5 := (HF19.out e).2; rw [h5] at hn; cases hn
      have Hst19 := hide hst19
      clear hst19
      clear hn
      clear hi
      refine wpOp_step rfl (fun K hK => ?_)
      go_simp
      refine (smallR Hb.out p1 q1 s1 u1).mono ?_
      rintro e w1 ⟨v1, rfl, hv1, hup1⟩
      go_wp2_with fail
      exact ⟨b0, b1, b2, b3, b4, b5, b6, b7, b8, true, b10, b11, b12, b13, b14, b15, b16, b17, b18, b19, b20, x3_0, x3_1, x3_2, x3_3, x3_4, x3_5, .int .i16 n1, x3_7, .int .u8 d1, v1, x3_10, x3_11, x3_12, x3_13, x3_14, x3_15, x3_16, x3_17, rfl, rfl, hup.trans hup1, HF0.out, HF1.out, HF2.out, HF3.out, (fun h => (HF4.out h).up hup1), HF5.out, (fun _ => rfl), HF7.out, (fun _ => rfl), (fun _ => hv1), HF10.out, HF11.out, HF12.out, HF13.out, (fun h => (HF14.out h).up hup1), (fun h => (HF15.out h).up hup1), (fun h => ((HF16.out h).up hup1).unfilled Hst19.out _), (fun h => (HF17.out h).up hup1), HF18.out, (fun h => ⟨(HF19.out h).1, rfl⟩), HF20.out, HN15x16.out, HN15x17.out, HN16x17.out⟩
    · skip
      clear hi
      refine wpOp_step rfl (fun K hK => ?_)
      go_simp
      refine hK _ _ ?_
      clear hK K
      exact ⟨b0, b1, b2, b3, b4, b5, b6, b7, b8, b9, true, b11, b12, b13, b14, b15, b16, b17, b18, b19, b20, x3_0, x3_1, x3_2, x3_3, x3_4, x3_5, x3_6, x3_7, x3_8, x3_9, .pointer (some ⟨w.heap.size, 2, none⟩), x3_11, x3_12, x3_13, x3_14, x3_15, x3_16, x3_17, rfl, rfl, hup, HF0.out, HF1.out, HF2.out, HF3.out, HF4.out, HF5.out, HF6.out, HF7.out, HF8.out, HF9.out, (fun _ => rfl), HF11.out, HF12.out, HF13.out, HF14.out, HF15.out, HF16.out, HF17.out, HF18.out, HF19.out, HF20.out, HN15x16.out, HN15x17.out, HN16x17.out⟩
    · skip
      have kc2 := (hk2.up hup).cell (i := 2) rfl
      have hb : b10 = true := getB (l := [b0, b1, b2, b3, b4, b5, b6, b7, b8, b9, b10, b11, b12, b13, b14, b15, b16, b17, b18, b19, b20]) (ready_dep hi rfl 10 (by kernel_rfl)) rfl
      have hx := HF10.out hb
      clear hb
      subst hx
      clear hi
      refine wpOp_step rfl (fun K hK => ?_)
      go_simp
      refine hK _ _ ?_
      clear hK K
      exact ⟨b0, b1, b2, b3, b4, b5, b6, b7, b8, b9, b10, true, b12, b13, b14, b15, b16, b17, b18, b19, b20, x3_0, x3_1, x3_2, x3_3, x3_4, x3_5, x3_6, x3_7, x3_8, x3_9, .pointer (some ⟨w.heap.size, 2, none⟩), .int .i16 n2, x3_12, x3_13, x3_14, x3_15, x3_16, x3_17, rfl, rfl, hup, HF0.out, HF1.out, HF2.out, HF3.out, HF4.out, HF5.out, HF6.out, HF7.out, HF8.out, HF9.out, (fun _ => rfl), (fun _ => rfl), HF12.out, HF13.out, HF14.out, HF15.out, HF16.out, HF17.out, HF18.out, HF19.out, HF20.out, HN15x16.out, HN15x17.out, HN16x17.out⟩
    · skip
      clear hi
      refine wpOp_step rfl (fun K hK => ?_)
      go_simp
      refine hK _ _ ?_
      clear hK K
      exact ⟨b0, b1, b2, b3, b4, b5, b6, b7, b8, b9, b10, b11, true, b13, b14, b15, b16, b17, b18, b19, b20, x3_0, x3_1, x3_2, x3_3, x3_4, x3_5, x3_6, x3_7, x3_8, x3_9, x3_10, x3_11, .pointer (some ⟨(w.heap.size + 1), 2, none⟩), x3_13, x3_14, x3_15, x3_16, x3_17, rfl, rfl, hup, HF0.out, HF1.out, HF2.out, HF3.out, HF4.out, HF5.out, HF6.out, HF7.out, HF8.out, HF9.out, HF10.out, HF11.out, (fun _ => rfl), HF13.out, HF14.out, HF15.out, HF16.out, HF17.out, HF18.out, HF19.out, HF20.out, HN15x16.out, HN15x17.out, HN16x17.out⟩
    · skip
      have kc2 := (hk3.up hup).cell (i := 2) rfl
      have hb : b12 = true := getB (l := [b0, b1, b2, b3, b4, b5, b6, b7, b8, b9, b10, b11, b12, b13, b14, b15, b16, b17, b18, b19, b20]) (ready_dep hi rfl 12 (by kernel_rfl)) rfl
      have hx := HF12.out hb
      clear hb
      subst hx
      clear hi
      refine wpOp_step rfl (fun K hK => ?_)
      go_simp
      refine hK _ _ ?_
      clear hK K
      exact ⟨b0, b1, b2, b3, b4, b5, b6, b7, b8, b9, b10, b11, b12, true, b14, b15, b16, b17, b18, b19, b20, x3_0, x3_1, x3_2, x3_3, x3_4, x3_5, x3_6, x3_7, x3_8, x3_9, x3_10, x3_11, .pointer (some ⟨(w.heap.size + 1), 2, none⟩), .int .u8 d2, x3_14, x3_15, x3_16, x3_17, rfl, rfl, hup, HF0.out, HF1.out, HF2.out, HF3.out, HF4.out, HF5.out, HF6.out, HF7.out, HF8.out, HF9.out, HF10.out, HF11.out, (fun _ => rfl), (fun _ => rfl), HF14.out, HF15.out, HF16.out, HF17.out, HF18.out, HF19.out, HF20.out, HN15x16.out, HN15x17.out, HN16x17.out⟩
    · skip
      have hb : b11 = true := getB (l := [b0, b1, b2, b3, b4, b5, b6, b7, b8, b9, b10, b11, b12, b13, b14, b15, b16, b17, b18, b19, b20]) (ready_dep hi rfl 11 (by kernel_rfl)) rfl
      have hx := HF11.out hb
      clear hb
      subst hx
      have hb : b13 = true := getB (l := [b0, b1, b2, b3, b4, b5, b6, b7, b8, b9, b10, b11, b12, b13, b14, b15, b16, b17, b18, b19, b20]) (ready_dep hi rfl 13 (by kernel_rfl)) rfl
      have hx := HF13.out hb
      clear hb
      subst hx
      have hn := ready_not hi
      have hst20 : b20 = false := by
        cases e : b20 with
        | false => rfl
        | true => have h5 := (HF20.out e).2; rw [h5] at hn; cases hn
      have Hst20 := hide hst20
      clear hst20
      clear hn
      clear hi
      refine wpOp_step rfl (fun K hK => ?_)
      go_simp
      refine (smallR Hc.out p2 q2 s2 u2).mono ?_
      rintro e w1 ⟨v1, rfl, hv1, hup1⟩
      go_wp2_with fail
      exact ⟨b0, b1, b2, b3, b4, b5, b6, b7, b8, b9, b10, b11, b12, b13, true, b15, b16, b17, b18, b19, b20, x3_0, x3_1, x3_2, x3_3, x3_4, x3_5, x3_6, x3_7, x3_8, x3_9, x3_10, .int .i16 n2, x3_12, .int .u8 d2, v1, x3_15, x3_16, x3_17, rfl, rfl, hup.trans hup1, HF0.out, HF1.out, HF2.out, HF3.out, (fun h => (HF4.out h).up hup1), HF5.out, HF6.out, HF7.out, HF8.out, (fun h => (HF9.out h).up hup1), HF10.out, (fun _ => rfl), HF12.out, (fun _ => rfl), (fun _ => hv1), (fun h => (HF15.out h).up hup1), (fun h => (HF16.out h).up hup1), (fun h => ((HF17.out h).up hup1).unfilled Hst20.out _), HF18.out, HF19.out, (fun h => ⟨(HF20.out h).1, rfl⟩), HN15x16.out, HN15x17.out, HN16x17.out⟩
    · skip
      have hn := ready_not hi
      have hst18 : b18 = false := by
        cases e : b18 with
        | false => rfl
        | true => have h5 := (HF18.out e).1; rw [h5] at hn; cases hn
      have Hst18 := hide hst18
      clear hst18
      clear hn
      clear hi
      have hsz := hup.size
      have hupA := (Up.refl W).alloc (.cells #[.bool false, .slice none 0 0, .bool false, .slice none 0 0] 29)
      refine wpOp_step rfl (fun K hK => ?_)
      go_simp
      refine hK _ _ ?_
      clear hK K
      exact ⟨b0, b1, b2, b3, b4, b5, b6, b7, b8, b9, b10, b11, b12, b13, b14, true, b16, b17, b18, b19, b20, x3_0, x3_1, x3_2, x3_3, x3_4, x3_5, x3_6, x3_7, x3_8, x3_9, x3_10, x3_11, x3_12, x3_13, x3_14, .pointer (some ⟨W.heap.size, 0, none⟩), x3_16, x3_17, rfl, rfl, hup.trans hupA, HF0.out, HF1.out, HF2.out, HF3.out, (fun h => (HF4.out h).up hupA), HF5.out, HF6.out, HF7.out, HF8.out, (fun h => (HF9.out h).up hupA), HF10.out, HF11.out, HF12.out, HF13.out, (fun h => (HF14.out h).up hupA), (fun _ => by rw [Hst18.out]; exact B4.new _ W _ hsz), (fun h => (HF16.out h).up hupA), (fun h => (HF17.out h).up hupA), (fun h => ⟨rfl, (HF18.out h).2⟩), HF19.out, HF20.out, (fun _ h => (HF16.out h).ne_new.symm), (fun _ h => (HF17.out h).ne_new.symm), HN16x17.out⟩
    · skip
      have hn := ready_not hi
      have hst19 : b19 = false := by
        cases e : b19 with
        | false => rfl
        | true => have h5 := (HF19.out e).1; rw [h5] at hn; cases hn
      have Hst19 := hide hst19
      clear hst19
      clear hn
      clear hi
      have hsz := hup.size
      have hupA := (Up.refl W).alloc (.cells #[.bool false, .slice none 0 0, .bool false, .slice none 0 0] 29)
      refine wpOp_step rfl (fun K hK => ?_)
      go_simp
      refine hK _ _ ?_
      clear hK K
      exact ⟨b0, b1, b2, b3, b4, b5, b6, b7, b8, b9, b10, b11, b12, b13, b14, b15, true, b17, b18, b19, b20, x3_0, x3_1, x3_2, x3_3, x3_4, x3_5, x3_6, x3_7, x3_8, x3_9, x3_10, x3_11, x3_12, x3_13, x3_14, x3_15, .pointer (some ⟨W.heap.size, 0, none⟩), x3_17, rfl, rfl, hup.trans hupA, HF0.out, HF1.out, HF2.out, HF3.out, (fun h => (HF4.out h).up hupA), HF5.out, HF6.out, HF7.out, HF8.out, (fun h => (HF9.out h).up hupA), HF10.out, HF11.out, HF12.out, HF13.out, (fun h => (HF14.out h).up hupA), (fun h => (HF15.out h).up hupA), (fun _ => by rw [Hst19.out]; exact B4.new _ W _ hsz), (fun h => (HF17.out h).up hupA), HF18.out, (fun h => ⟨rfl, (HF19.out h).2⟩), HF20.out, (fun h _ => (HF15.out h).ne_new), HN15x17.out, (fun _ h => (HF17.out h).ne_new.symm)⟩
    · skip
      have hn := ready_not hi
      have hst20 : b20 = false := by
        cases e : b20 with
        | false => rfl
        | true => have h5 := (HF20.out e).1; rw [h5] at hn; cases hn
      have Hst20 := hide hst20
      clear hst20
      clear hn
      clear hi
      have hsz := hup.size
      have hupA := (Up.refl W).alloc (.cells #[.bool false, .slice none 0 0, .bool false, .slice none 0 0] 29)
      refine wpOp_step rfl (fun K hK => ?_)
      go_simp
      refine hK _ _ ?_
      clear hK K
      exact ⟨b0, b1, b2, b3, b4, b5, b6, b7, b8, b9, b10, b11, b12, b13, b14, b15, b16, true, b18, b19, b20, x3_0, x3_1, x3_2, x3_3, x3_4, x3_5, x3_6, x3_7, x3_8, x3_9, x3_10, x3_11, x3_12, x3_13, x3_14, x3_15, x3_16, .pointer (some ⟨W.heap.size, 0, none⟩), rfl, rfl, hup.trans hupA, HF0.out, HF1.out, HF2.out, HF3.out, (fun h => (HF4.out h).up hupA), HF5.out, HF6.out, HF7.out, HF8.out, (fun h => (HF9.out h).up hupA), HF10.out, HF11.out, HF12.out, HF13.out, (fun h => (HF14.out h).up hupA), (fun h => (HF15.out h).up hupA), (fun h => (HF16.out h).up hupA), (fun _ => by rw [Hst20.out]; exact B4.new _ W _ hsz), HF18.out, HF19.out, (fun h => ⟨rfl, (HF20.out h).2⟩), HN15x16.out, (fun h _ => (HF15.out h).ne_new), (fun h _ => (HF16.out h).ne_new)⟩
    · skip
      have hb2 : b15 = true := getB (l := [b0, b1, b2, b3, b4, b5, b6, b7, b8, b9, b10, b11, b12, b13, b14, b15, b16, b17, b18, b19, b20]) (ready_dep hi rfl 15 (by kernel_rfl)) rfl
      have hb1 : b4 = true := getB (l := [b0, b1, b2, b3, b4, b5, b6, b7, b8, b9, b10, b11, b12, b13, b14, b15, b16, b17, b18, b19, b20]) (ready_dep hi rfl 4 (by kernel_rfl)) rfl
      clear hi
      obtain ⟨s9, A9, n9, c9, t9, C9, m9, d9, hxc⟩ := (HF4.out hb1).agg4
      subst hxc
      obtain ⟨g, s8, A8, n8, c8, t8, C8, m8, d8, hxb, hgB, hbk, _⟩ := HF15.out hb2
      subst hxb
      have f0 := hbk.cell (i := 0) rfl
      have z0 := hbk.frozen 0
      have f1 := hbk.cell (i := 1) rfl
      have z1 := hbk.frozen 1
      have f2 := hbk.cell (i := 2) rfl
      have z2 := hbk.frozen 2
      have f3 := hbk.cell (i := 3) rfl
      have z3 := hbk.frozen 3
      have Hb1 := hide hb1
      have Hb2 := hide hb2
      have hsz := hup.size
      clear hb1 hb2
      refine wpOp_step rfl (fun K hK => ?_)
      go_simp
      refine hK _ _ ?_
      clear hK K
      exact ⟨b0, b1, b2, b3, b4, b5, b6, b7, b8, b9, b10, b11, b12, b13, b14, b15, b16, b17, true, b19, b20, x3_0, x3_1, x3_2, x3_3, .agg #[.bool s9, .slice A9 n9 c9, .bool t9, .slice C9 m9 d9], x3_5, x3_6, x3_7, x3_8, x3_9, x3_10, x3_11, x3_12, x3_13, x3_14, .pointer (some ⟨g, 0, none⟩), x3_16, x3_17, rfl, rfl, hup.st4 (g := g) hgB _ _ _ _, HF0.out, HF1.out, HF2.out, HF3.out, (fun h => (HF4.out h).st4 hbk (noU4 _ _ _ _ _ _ _ _) _ _ _ _), HF5.out, HF6.out, HF7.out, HF8.out, (fun h => (HF9.out h).st4 hbk (noU4 _ _ _ _ _ _ _ _) _ _ _ _), HF10.out, HF11.out, HF12.out, HF13.out, (fun h => (HF14.out h).st4 hbk (noU4 _ _ _ _ _ _ _ _) _ _ _ _), (fun _ => hbk.fill4 hgB), (fun h => (HF16.out h).far ((HN15x16.out Hb2.out h).symm) _ _ _ _), (fun h => (HF17.out h).far ((HN15x17.out Hb2.out h).symm) _ _ _ _), (fun _ => ⟨Hb2.out, Hb1.out⟩), HF19.out, HF20.out, HN15x16.out, HN15x17.out, HN16x17.out⟩
    · skip
      have hb2 : b16 = true := getB (l := [b0, b1, b2, b3, b4, b5, b6, b7, b8, b9, b10, b11, b12, b13, b14, b15, b16, b17, b18, b19, b20]) (ready_dep hi rfl 16 (by kernel_rfl)) rfl
      have hb1 : b9 = true := getB (l := [b0, b1, b2, b3, b4, b5, b6, b7, b8, b9, b10, b11, b12, b13, b14, b15, b16, b17, b18, b19, b20]) (ready_dep hi rfl 9 (by kernel_rfl)) rfl
      clear hi
      obtain ⟨s9, A9, n9, c9, t9, C9, m9, d9, hxc⟩ := (HF9.out hb1).agg4
      subst hxc
      obtain ⟨g, s8, A8, n8, c8, t8, C8, m8, d8, hxb, hgB, hbk, _⟩ := HF16.out hb2
      subst hxb
      have f0 := hbk.cell (i := 0) rfl
      have z0 := hbk.frozen 0
      have f1 := hbk.cell (i := 1) rfl
      have z1 := hbk.frozen 1
      have f2 := hbk.cell (i := 2) rfl
      have z2 := hbk.frozen 2
      have f3 := hbk.cell (i := 3) rfl
      have z3 := hbk.frozen 3
      have Hb1 := hide hb1
      have Hb2 := hide hb2
      have hsz := hup.size
      clear hb1 hb2
      refine wpOp_step rfl (fun K hK => ?_)
      go_simp
      refine hK _ _ ?_
      clear hK K
      exact ⟨b0, b1, b2, b3, b4, b5, b6, b7, b8, b9, b10, b11, b12, b13, b14, b15, b16, b17, b18, true, b20, x3_0, x3_1, x3_2, x3_3, x3_4, x3_5, x3_6, x3_7, x3_8, .agg #[.bool s9, .slice A9 n9 c9, .bool t9, .slice C9 m9 d9], x3_10, x3_11, x3_12, x3_13, x3_14, x3_15, .pointer (some ⟨g, 0, none⟩), x3_17, rfl, rfl, hup.st4 (g := g) hgB _ _ _ _, HF0.out, HF1.out, HF2.out, HF3.out, (fun h => (HF4.out h).st4 hbk (noU4 _ _ _ _ _ _ _ _) _ _ _ _), HF5.out, HF6.out, HF7.out, HF8.out, (fun h => (HF9.out h).st4 hbk (noU4 _ _ _ _ _ _ _ _) _ _ _ _), HF10.out, HF11.out, HF12.out, HF13.out, (fun h => (HF14.out h).st4 hbk (noU4 _ _ _ _ _ _ _ _) _ _ _ _), (fun h => (HF15.out h).far (HN15x16.out h Hb2.out) _ _ _ _), (fun _ => hbk.fill4 hgB), (fun h => (HF17.out h).far ((HN16x17.out Hb2.out h).symm) _ _ _ _), HF18.out, (fun _ => ⟨Hb2.out, Hb1.out⟩), HF20.out, HN15x16.out, HN15x17.out, HN16x17.out⟩
    · skip
      have hb2 : b17 = true := getB (l := [b0, b1, b2, b3, b4, b5, b6, b7, b8, b9, b10, b11, b12, b13, b14, b15, b16, b17, b18, b19, b20]) (ready_dep hi rfl 17 (by kernel_rfl)) rfl
      have hb1 : b14 = true := getB (l := [b0, b1, b2, b3, b4, b5, b6, b7, b8, b9, b10, b11, b12, b13, b14, b15, b16, b17, b18, b19, b20]) (ready_dep hi rfl 14 (by kernel_rfl)) rfl
      clear hi
      obtain ⟨s9, A9, n9, c9, t9, C9, m9, d9, hxc⟩ := (HF14.out hb1).agg4
      subst hxc
      obtain ⟨g, s8, A8, n8, c8, t8, C8, m8, d8, hxb, hgB, hbk, _⟩ := HF17.out hb2
      subst hxb
      have f0 := hbk.cell (i := 0) rfl
      have z0 := hbk.frozen 0
      have f1 := hbk.cell (i := 1) rfl
      have z1 := hbk.frozen 1
      have f2 := hbk.cell (i := 2) rfl
      have z2 := hbk.frozen 2
      have f3 := hbk.cell (i := 3) rfl
      have z3 := hbk.frozen 3
      have Hb1 := hide hb1
      have Hb2 := hide hb2
      have hsz := hup.size
      clear hb1 hb2
      refine wpOp_step rfl (fun K hK => ?_)
      go_simp
      refine hK _ _ ?_
      clear hK K
      exact ⟨b0, b1, b2, b3, b4, b5, b6, b7, b8, b9, b10, b11, b12, b13, b14, b15, b16, b17, b18, b19, true, x3_0, x3_1, x3_2, x3_3, x3_4, x3_5, x3_6, x3_7, x3_8, x3_9, x3_10, x3_11, x3_12, x3_13, .agg #[.bool s9, .slice A9 n9 c9, .bool t9, .slice C9 m9 d9], x3_15, x3_16, .pointer (some ⟨g, 0, none⟩), rfl, rfl, hup.st4 (g := g) hgB _ _ _ _, HF0.out, HF1.out, HF2.out, HF3.out, (fun h => (HF4.out h).st4 hbk (noU4 _ _ _ _ _ _ _ _) _ _ _ _), HF5.out, HF6.out, HF7.out, HF8.out, (fun h => (HF9.out h).st4 hbk (noU4 _ _ _ _ _ _ _ _) _ _ _ _), HF10.out, HF11.out, HF12.out, HF13.out, (fun h => (HF14.out h).st4 hbk (noU4 _ _ _ _ _ _ _ _) _ _ _ _), (fun h => (HF15.out h).far (HN15x17.out h Hb2.out) _ _ _ _), (fun h => (HF16.out h).far (HN16x17.out h Hb2.out) _ _ _ _), (fun _ => hbk.fill4 hgB), HF18.out, HF19.out, (fun _ => ⟨Hb2.out, Hb1.out⟩), HN15x16.out, HN15x17.out, HN16x17.out⟩
  case hQ =>
    rintro l a W3_ ⟨b0, b1, b2, b3, b4, b5, b6, b7, b8, b9, b10, b11, b12, b13, b14, b15, b16, b17, b18, b19, b20, x3_0, x3_1, x3_2, x3_3, x3_4, x3_5, x3_6, x3_7, x3_8, x3_9, x3_10, x3_11, x3_12, x3_13, x3_14, x3_15, x3_16, x3_17, rfl, rfl, hup, hF0, hF1, hF2, hF3, hF4, hF5, hF6, hF7, hF8, hF9, hF10, hF11, hF12, hF13, hF14, hF15, hF16, hF17, hF18, hF19, hF20, hN15x16, hN15x17, hN16x17⟩ hall
    have hb0 : b0 = true := getB (l := [b0, b1, b2, b3, b4, b5, b6, b7, b8, b9, b10, b11, b12, b13, b14, b15, b16, b17, b18, b19, b20]) (hall 0 (by decide)) rfl
    have hb1 : b1 = true := getB (l := [b0, b1, b2, b3, b4, b5, b6, b7, b8, b9, b10, b11, b12, b13, b14, b15, b16, b17, b18, b19, b20]) (hall 1 (by decide)) rfl
    have hb2 : b2 = true := getB (l := [b0, b1, b2, b3, b4, b5, b6, b7, b8, b9, b10, b11, b12, b13, b14, b15, b16, b17, b18, b19, b20]) (hall 2 (by decide)) rfl
    have hb3 : b3 = true := getB (l := [b0, b1, b2, b3, b4, b5, b6, b7, b8, b9, b10, b11, b12, b13, b14, b15, b16, b17, b18, b19, b20]) (hall 3 (by decide)) rfl
    have hb4 : b4 = true := getB (l := [b0, b1, b2, b3, b4, b5, b6, b7, b8, b9, b10, b11, b12, b13, b14, b15, b16, b17, b18, b19, b20]) (hall 4 (by decide)) rfl
    have hb5 : b5 = true := getB (l := [b0, b1, b2, b3, b4, b5, b6, b7, b8, b9, b10, b11, b12, b13, b14, b15, b16, b17, b18, b19, b20]) (hall 5 (by decide)) rfl
    have hb6 : b6 = true := getB (l := [b0, b1, b2, b3, b4, b5, b6, b7, b8, b9, b10, b11, b12, b13, b14, b15, b16, b17, b18, b19, b20]) (hall 6 (by decide)) rfl
    have hb7 : b7 = true := getB (l := [b0, b1, b2, b3, b4, b5, b6, b7, b8, b9, b10, b11, b12, b13, b14, b15, b16, b17, b18, b19, b20]) (hall 7 (by decide)) rfl
    have hb8 : b8 = true := getB (l := [b0, b1, b2, b3, b4, b5, b6, b7, b8, b9, b10, b11, b12, b13, b14, b15, b16, b17, b18, b19, b20]) (hall 8 (by decide)) rfl
    have hb9 : b9 = true := getB (l := [b0, b1, b2, b3, b4, b5, b6, b7, b8, b9, b10, b11, b12, b13, b14, b15, b16, b17, b18, b19, b20]) (hall 9 (by decide)) rfl
    have hb10 : b10 = true := getB (l := [b0, b1, b2, b3, b4, b5, b6, b7, b8, b9, b10, b11, b12, b13, b14, b15, b16, b17, b18, b19, b20]) (hall 10 (by decide)) rfl
    have hb11 : b11 = true := getB (l := [b0, b1, b2, b3, b4, b5, b6, b7, b8, b9, b10, b11, b12, b13, b14, b15, b16, b17, b18, b19, b20]) (hall 11 (by decide)) rfl
    have hb12 : b12 = true := getB (l := [b0, b1, b2, b3, b4, b5, b6, b7, b8, b9, b10, b11, b12, b13, b14, b15, b16, b17, b18, b19, b20]) (hall 12 (by decide)) rfl
    have hb13 : b13 = true := getB (l := [b0, b1, b2, b3, b4, b5, b6, b7, b8, b9, b10, b11, b12, b13, b14, b15, b16, b17, b18, b19, b20]) (hall 13 (by decide)) rfl
    have hb14 : b14 = true := getB (l := [b0, b1, b2, b3, b4, b5, b6, b7, b8, b9, b10, b11, b12, b13, b14, b15, b16, b17, b18, b19, b20]) (hall 14 (by decide)) rfl
    have hb15 : b15 = true := getB (l := [b0, b1, b2, b3, b4, b5, b6, b7, b8, b9, b10, b11, b12, b13, b14, b15, b16, b17, b18, b19, b20]) (hall 15 (by decide)) rfl
    have hb16 : b16 = true := getB (l := [b0, b1, b2, b3, b4, b5, b6, b7, b8, b9, b10, b11, b12, b13, b14, b15, b16, b17, b18, b19, b20]) (hall 16 (by decide)) rfl
    have hb17 : b17 = true := getB (l := [b0, b1, b2, b3, b4, b5, b6, b7, b8, b9, b10, b11, b12, b13, b14, b15, b16, b17, b18, b19, b20]) (hall 17 (by decide)) rfl
    have hb18 : b18 = true := getB (l := [b0, b1, b2, b3, b4, b5, b6, b7, b8, b9, b10, b11, b12, b13, b14, b15, b16, b17, b18, b19, b20]) (hall 18 (by decide)) rfl
    have hb19 : b19 = true := getB (l := [b0, b1, b2, b3, b4, b5, b6, b7, b8, b9, b10, b11, b12, b13, b14, b15, b16, b17, b18, b19, b20]) (hall 19 (by decide)) rfl
    have hb20 : b20 = true := getB (l := [b0, b1, b2, b3, b4, b5, b6, b7, b8, b9, b10, b11, b12, b13, b14, b15, b16, b17, b18, b19, b20]) (hall 20 (by decide)) rfl
    subst hb0 hb1 hb2 hb3 hb4 hb5 hb6 hb7 hb8 hb9 hb10 hb11 hb12 hb13 hb14 hb15 hb16 hb17 hb18 hb19 hb20
    clear hall
    have m0 := hF0 rfl
    have m1 := hF1 rfl
    have m2 := hF2 rfl
    have m3 := hF3 rfl
    have m4 := hF4 rfl
    have m5 := hF5 rfl
    have m6 := hF6 rfl
    have m7 := hF7 rfl
    have m8 := hF8 rfl
    have m9 := hF9 rfl
    have m10 := hF10 rfl
    have m11 := hF11 rfl
    have m12 := hF12 rfl
    have m13 := hF13 rfl
    have m14 := hF14 rfl
    have m15 := hF15 rfl
    have m16 := hF16 rfl
    have m17 := hF17 rfl
    have mN15x16 := hN15x16 rfl rfl
    have mN15x17 := hN15x17 rfl rfl
    have mN16x17 := hN16x17 rfl rfl
    clear hF0 hF1 hF2 hF3 hF4 hF5 hF6 hF7 hF8 hF9 hF10 hF11 hF12 hF13 hF14 hF15 hF16 hF17 hF18 hF19 hF20 hN15x16 hN15x17 hN16x17
    have hzI3 : w.heap.size ≤ w2.heap.size := hupw.size
    have hoI3 : (w.heap.size + 1) < w2.heap.size := hk3.lt
    replace hk2 := hk2.up hup
    replace hupw := hupw.trans hup
    clear hup
    obtain ⟨g3_15, s3_15, A3_15, n3_15, c3_15, t3_15, C3_15, m3_15, d3_15, rfl, hg3_15, hk3_15, he3_15⟩ := m15
    obtain rfl := he3_15 rfl
    clear he3_15
    have h3_15 := m4
    obtain ⟨g3_16, s3_16, A3_16, n3_16, c3_16, t3_16, C3_16, m3_16, d3_16, rfl, hg3_16, hk3_16, he3_16⟩ := m16
    obtain rfl := he3_16 rfl
    clear he3_16
    have h3_16 := m9
    obtain ⟨g3_17, s3_17, A3_17, n3_17, c3_17, t3_17, C3_17, m3_17, d3_17, rfl, hg3_17, hk3_17, he3_17⟩ := m17
    obtain rfl := he3_17 rfl
    clear he3_17
    have h3_17 := m14
    obtain rfl := m0
    obtain rfl := m1
    obtain rfl := m2
    obtain rfl := m3
    obtain rfl := m5
    obtain rfl := m6
    obtain rfl := m7
    obtain rfl := m8
    obtain rfl := m10
    obtain rfl := m11
    obtain rfl := m12
    obtain rfl := m13
    have hne3_15_16 : g3_15 ≠ g3_16 := fun e => mN15x16 (by rw [e])
    clear mN15x16
    have hne3_15_17 : g3_15 ≠ g3_17 := fun e => mN15x17 (by rw [e])
    clear mN15x17
    have hne3_16_17 : g3_16 ≠ g3_17 := fun e => mN16x17 (by rw [e])
    clear mN16x17
    have hk3_15c0 := hk3_15.cell (i := 0) rfl
    have hk3_15c1 := hk3_15.cell (i := 1) rfl
    have hk3_15c2 := hk3_15.cell (i := 2) rfl
    have hk3_15c3 := hk3_15.cell (i := 3) rfl
    have hk3_15l := hk3_15.lt
    have hk3_16c0 := hk3_16.cell (i := 0) rfl
    have hk3_16c1 := hk3_16.cell (i := 1) rfl
    have hk3_16c2 := hk3_16.cell (i := 2) rfl
    have hk3_16c3 := hk3_16.cell (i := 3) rfl
    have hk3_16l := hk3_16.lt
    go_wp2_with fail
    clear hk3_15c0 hk3_15c1 hk3_15c2 hk3_15c3 hk3_15l hk3_16c0 hk3_16c1 hk3_16c2 hk3_16c3 hk3_16l
    refine (addOK h3_15 h3_16 e1).mono ?_
    rintro e w3 ⟨vf, rfl, hf, hup⟩
    replace hk2 := hk2.up hup
    replace hk3_15 := hk3_15.up hup
    replace hk3_16 := hk3_16.up hup
    replace hk3_17 := hk3_17.up hup
    replace h3_15 := h3_15.up hup
    replace h3_16 := h3_16.up hup
    replace h3_17 := h3_17.up hup
    replace hupw := hupw.trans hup
    clear hup
    obtain ⟨s_4, A_4, n_4, c_4, s_5, A_5, n_5, c_5, rfl, h_4, h_5⟩ := hf
    have hk3_16c0 := hk3_16.cell (i := 0) rfl
    have hk3_16c1 := hk3_16.cell (i := 1) rfl
    have hk3_16c2 := hk3_16.cell (i := 2) rfl
    have hk3_16c3 := hk3_16.cell (i := 3) rfl
    have hk3_16l := hk3_16.lt
    have hk3_15c0 := hk3_15.cell (i := 0) rfl
    have hk3_15c1 := hk3_15.cell (i := 1) rfl
    have hk3_15c2 := hk3_15.cell (i := 2) rfl
    have hk3_15c3 := hk3_15.cell (i := 3) rfl
    have hk3_15l := hk3_15.lt
    go_wp2_with fail
    clear hk3_16c0 hk3_16c1 hk3_16c2 hk3_16c3 hk3_16l hk3_15c0 hk3_15c1 hk3_15c2 hk3_15c3 hk3_15l
    obtain ⟨wa6, hwa6⟩ : ∃ x, x = (w3.alloc (.cells #[.bool s_4, .slice A_4 n_4 c_4, .bool s_5, .slice A_5 n_5 c_5] 29)) := ⟨_, rfl⟩
    have hup : Up w3 wa6 := by rw [hwa6]; exact ((Up.refl w3).alloc _)
    have howa6 : g3_15 < w3.heap.size := hk3_15.lt
    have howa6_1 : g3_16 < w3.heap.size := hk3_16.lt
    have howa6_2 : g3_17 < w3.heap.size := hk3_17.lt
    have hzwa6 : w.heap.size ≤ w3.heap.size := hupw.size
    replace hk2 := hk2.up hup
    replace hk3_15 := hk3_15.up hup
    replace hk3_16 := hk3_16.up hup
    replace hk3_17 := hk3_17.up hup
    replace h3_15 := h3_15.up hup
    replace h3_16 := h3_16.up hup
    replace h3_17 := h3_17.up hup
    replace h_4 := h_4.up hup
    replace h_5 := h_5.up hup
    replace hupw := hupw.trans hup
    clear hup
    have hk8 : Bk wa6 (w3.heap.size) 29 #[.bool s_4, .slice A_4 n_4 c_4, .bool s_5, .slice A_5 n_5 c_5] := by
      have := (Bk.new w3 29 #[.bool s_4, .slice A_4 n_4 c_4, .bool s_5, .slice A_5 n_5 c_5])
      rw [hwa6]; simpa using this
    rw [← hwa6]
    clear hwa6
    refine (addOK h3_16 h3_15 e2).mono ?_
    rintro e w7 ⟨vf, rfl, hf, hup⟩
    replace hk2 := hk2.up hup
    replace hk3_15 := hk3_15.up hup
    replace hk3_16 := hk3_16.up hup
    replace hk3_17 := hk3_17.up hup
    replace hk8 := hk8.up hup
    replace h3_15 := h3_15.up hup
    replace h3_16 := h3_16.up hup
    replace h3_17 := h3_17.up hup
    replace h_4 := h_4.up hup
    replace h_5 := h_5.up hup
    replace hupw := hupw.trans hup
    clear hup
    obtain ⟨s_8, A_8, n_8, c_8, s_9, A_9, n_9, c_9, rfl, h_8, h_9⟩ := hf
    have hk8c0 := hk8.cell (i := 0) rfl
    have hk8c1 := hk8.cell (i := 1) rfl
    have hk8c2 := hk8.cell (i := 2) rfl
    have hk8c3 := hk8.cell (i := 3) rfl
    have hk8l := hk8.lt
    have hk3_16c0 := hk3_16.cell (i := 0) rfl
    have hk3_16c1 := hk3_16.cell (i := 1) rfl
    have hk3_16c2 := hk3_16.cell (i := 2) rfl
    have hk3_16c3 := hk3_16.cell (i := 3) rfl
    have hk3_16l := hk3_16.lt
    go_wp2_with fail
    clear hk8c0 hk8c1 hk8c2 hk8c3 hk8l hk3_16c0 hk3_16c1 hk3_16c2 hk3_16c3 hk3_16l
    obtain ⟨wa10, hwa10⟩ : ∃ x, x = (w7.alloc (.cells #[.bool s_8, .slice A_8 n_8 c_8, .bool s_9, .slice A_9 n_9 c_9] 29)) := ⟨_, rfl⟩
    have hup : Up w7 wa10 := by rw [hwa10]; exact ((Up.refl w7).alloc _)
    have howa10 : w3.heap.size < w7.heap.size := hk8.lt
    have hzwa10 : w.heap.size ≤ w7.heap.size := hupw.size
    replace hk2 := hk2.up hup
    replace hk3_15 := hk3_15.up hup
    replace hk3_16 := hk3_16.up hup
    replace hk3_17 := hk3_17.up hup
    replace hk8 := hk8.up hup
    replace h3_15 := h3_15.up hup
    replace h3_16 := h3_16.up hup
    replace h3_17 := h3_17.up hup
    replace h_4 := h_4.up hup
    replace h_5 := h_5.up hup
    replace h_8 := h_8.up hup
    replace h_9 := h_9.up hup
    replace hupw := hupw.trans hup
    clear hup
    have hk10 : Bk wa10 (w7.heap.size) 29 #[.bool s_8, .slice A_8 n_8 c_8, .bool s_9, .slice A_9 n_9 c_9] := by
      have := (Bk.new w7 29 #[.bool s_8, .slice A_8 n_8 c_8, .bool s_9, .slice A_9 n_9 c_9])
      rw [hwa10]; simpa using this
    rw [← hwa10]
    clear hwa10
    refine (subOK (Fz.mk h_4 h_5) h3_16 e3).mono ?_
    rintro e w11 ⟨vf, rfl, hf, hup⟩
    replace hk2 := hk2.up hup
    replace hk3_15 := hk3_15.up hup
    replace hk3_16 := hk3_16.up hup
    replace hk3_17 := hk3_17.up hup
    replace hk8 := hk8.up hup
    replace hk10 := hk10.up hup
    replace h3_15 := h3_15.up hup
    replace h3_16 := h3_16.up hup
    replace h3_17 := h3_17.up hup
    replace h_4 := h_4.up hup
    replace h_5 := h_5.up hup
    replace h_8 := h_8.up hup
    replace h_9 := h_9.up hup
    replace hupw := hupw.trans hup
    clear hup
    obtain ⟨s_12, A_12, n_12, c_12, s_13, A_13, n_13, c_13, rfl, h_12, h_13⟩ := hf
    have hk3_15c0 := hk3_15.cell (i := 0) rfl
    have hk3_15c1 := hk3_15.cell (i := 1) rfl
    have hk3_15c2 := hk3_15.cell (i := 2) rfl
    have hk3_15c3 := hk3_15.cell (i := 3) rfl
    have hk3_15l := hk3_15.lt
    have hk3_17c0 := hk3_17.cell (i := 0) rfl
    have hk3_17c1 := hk3_17.cell (i := 1) rfl
    have hk3_17c2 := hk3_17.cell (i := 2) rfl
    have hk3_17c3 := hk3_17.cell (i := 3) rfl
    have hk3_17l := hk3_17.lt
    go_wp2_with fail
    clear hk3_15c0 hk3_15c1 hk3_15c2 hk3_15c3 hk3_15l hk3_17c0 hk3_17c1 hk3_17c2 hk3_17c3 hk3_17l
    obtain ⟨wa14, hwa14⟩ : ∃ x, x = (w11.alloc (.cells #[.bool s_12, .slice A_12 n_12 c_12, .bool s_13, .slice A_13 n_13 c_13] 29)) := ⟨_, rfl⟩
    have hup : Up w11 wa14 := by rw [hwa14]; exact ((Up.refl w11).alloc _)
    have howa14 : w7.heap.size < w11.heap.size := hk10.lt
    have hzwa14 : w.heap.size ≤ w11.heap.size := hupw.size
    replace hk2 := hk2.up hup
    replace hk3_15 := hk3_15.up hup
    replace hk3_16 := hk3_16.up hup
    replace hk3_17 := hk3_17.up hup
    replace hk8 := hk8.up hup
    replace hk10 := hk10.up hup
    replace h3_15 := h3_15.up hup
    replace h3_16 := h3_16.up hup
    replace h3_17 := h3_17.up hup
    replace h_4 := h_4.up hup
    replace h_5 := h_5.up hup
    replace h_8 := h_8.up hup
    replace h_9 := h_9.up hup
    replace h_12 := h_12.up hup
    replace h_13 := h_13.up hup
    replace hupw := hupw.trans hup
    clear hup
    have hk12 : Bk wa14 (w11.heap.size) 29 #[.bool s_12, .slice A_12 n_12 c_12, .bool s_13, .slice A_13 n_13 c_13] := by
      have := (Bk.new w11 29 #[.bool s_12, .slice A_12 n_12 c_12, .bool s_13, .slice A_13 n_13 c_13])
      rw [hwa14]; simpa using this
    rw [← hwa14]
    clear hwa14
    refine (mulOK h3_15 h3_17 e4).mono ?_
    rintro e w15 ⟨vf, rfl, hf, hup⟩
    replace hk2 := hk2.up hup
    replace hk3_15 := hk3_15.up hup
    replace hk3_16 := hk3_16.up hup
    replace hk3_17 := hk3_17.up hup
    replace hk8 := hk8.up hup
    replace hk10 := hk10.up hup
    replace hk12 := hk12.up hup
    replace h3_15 := h3_15.up hup
    replace h3_16 := h3_16.up hup
    replace h3_17 := h3_17.up hup
    replace h_4 := h_4.up hup
    replace h_5 := h_5.up hup
    replace h_8 := h_8.up hup
    replace h_9 := h_9.up hup
    replace h_12 := h_12.up hup
    replace h_13 := h_13.up hup
    replace hupw := hupw.trans hup
    clear hup
    obtain ⟨s_16, A_16, n_16, c_16, s_17, A_17, n_17, c_17, rfl, h_16, h_17⟩ := hf
    have hk3_16c0 := hk3_16.cell (i := 0) rfl
    have hk3_16c1 := hk3_16.cell (i := 1) rfl
    have hk3_16c2 := hk3_16.cell (i := 2) rfl
    have hk3_16c3 := hk3_16.cell (i := 3) rfl
    have hk3_16l := hk3_16.lt
    have hk3_17c0 := hk3_17.cell (i := 0) rfl
    have hk3_17c1 := hk3_17.cell (i := 1) rfl
    have hk3_17c2 := hk3_17.cell (i := 2) rfl
    have hk3_17c3 := hk3_17.cell (i := 3) rfl
    have hk3_17l := hk3_17.lt
    go_wp2_with fail
    clear hk3_16c0 hk3_16c1 hk3_16c2 hk3_16c3 hk3_16l hk3_17c0 hk3_17c1 hk3_17c2 hk3_17c3 hk3_17l
    obtain ⟨wa18, hwa18⟩ : ∃ x, x = (w15.alloc (.cells #[.bool s_16, .slice A_16 n_16 c_16, .bool s_17, .slice A_17 n_17 c_17] 29)) := ⟨_, rfl⟩
    have hup : Up w15 wa18 := by rw [hwa18]; exact ((Up.refl w15).alloc _)
    have howa18 : w11.heap.size < w15.heap.size := hk12.lt
    have hzwa18 : w.heap.size ≤ w15.heap.size := hupw.size
    replace hk2 := hk2.up hup
    replace hk3_15 := hk3_15.up hup
    replace hk3_17 := hk3_17.up hup
    replace hk8 := hk8.up hup
    replace hk10 := hk10.up hup
    replace hk12 := hk12.up hup
    replace h3_15 := h3_15.up hup
    replace h3_16 := h3_16.up hup
    replace h3_17 := h3_17.up hup
    replace h_4 := h_4.up hup
    replace h_5 := h_5.up hup
    replace h_8 := h_8.up hup
    replace h_9 := h_9.up hup
    replace h_12 := h_12.up hup
    replace h_13 := h_13.up hup
    replace h_16 := h_16.up hup
    replace h_17 := h_17.up hup
    replace hupw := hupw.trans hup
    clear hup
    have hk14 : Bk wa18 (w15.heap.size) 29 #[.bool s_16, .slice A_16 n_16 c_16, .bool s_17, .slice A_17 n_17 c_17] := by
      have := (Bk.new w15 29 #[.bool s_16, .slice A_16 n_16 c_16, .bool s_17, .slice A_17 n_17 c_17])
      rw [hwa18]; simpa using this
    rw [← hwa18]
    clear hwa18
    refine (mulOK h3_16 h3_17 e5).mono ?_
    rintro e w19 ⟨vf, rfl, hf, hup⟩
    replace hk2 := hk2.up hup
    replace hk3_15 := hk3_15.up hup
    replace hk3_17 := hk3_17.up hup
    replace hk8 := hk8.up hup
    replace hk10 := hk10.up hup
    replace hk12 := hk12.up hup
    replace hk14 := hk14.up hup
    replace h3_15 := h3_15.up hup
    replace h3_17 := h3_17.up hup
    replace h_4 := h_4.up hup
    replace h_5 := h_5.up hup
    replace h_8 := h_8.up hup
    replace h_9 := h_9.up hup
    replace h_12 := h_12.up hup
    replace h_13 := h_13.up hup
    replace h_16 := h_16.up hup
    replace h_17 := h_17.up hup
    replace hupw := hupw.trans hup
    clear hup
    obtain ⟨s_20, A_20, n_20, c_20, s_21, A_21, n_21, c_21, rfl, h_20, h_21⟩ := hf
    have hk14c0 := hk14.cell (i := 0) rfl
    have hk14c1 := hk14.cell (i := 1) rfl
    have hk14c2 := hk14.cell (i := 2) rfl
    have hk14c3 := hk14.cell (i := 3) rfl
    have hk14l := hk14.lt
    go_wp2_with fail
    clear hk14c0 hk14c1 hk14c2 hk14c3 hk14l
    obtain ⟨wa22, hwa22⟩ : ∃ x, x = (w19.alloc (.cells #[.bool s_20, .slice A_20 n_20 c_20, .bool s_21, .slice A_21 n_21 c_21] 29)) := ⟨_, rfl⟩
    have hup : Up w19 wa22 := by rw [hwa22]; exact ((Up.refl w19).alloc _)
    have howa22 : w15.heap.size < w19.heap.size := hk14.lt
    have hzwa22 : w.heap.size ≤ w19.heap.size := hupw.size
    replace hk2 := hk2.up hup
    replace hk3_15 := hk3_15.up hup
    replace hk3_17 := hk3_17.up hup
    replace hk8 := hk8.up hup
    replace hk10 := hk10.up hup
    replace hk12 := hk12.up hup
    replace hk14 := hk14.up hup
    replace h3_15 := h3_15.up hup
    replace h3_17 := h3_17.up hup
    replace h_4 := h_4.up hup
    replace h_5 := h_5.up hup
    replace h_8 := h_8.up hup
    replace h_9 := h_9.up hup
    replace h_12 := h_12.up hup
    replace h_13 := h_13.up hup
    replace h_16 := h_16.up hup
    replace h_17 := h_17.up hup
    replace h_20 := h_20.up hup
    replace h_21 := h_21.up hup
    replace hupw := hupw.trans hup
    clear hup
    have hk16 : Bk wa22 (w19.heap.size) 29 #[.bool s_20, .slice A_20 n_20 c_20, .bool s_21, .slice A_21 n_21 c_21] := by
      have := (Bk.new w19 29 #[.bool s_20, .slice A_20 n_20 c_20, .bool s_21, .slice A_21 n_21 c_21])
      rw [hwa22]; simpa using this
    rw [← hwa22]
    clear hwa22
    refine (addOK (Fz.mk h_16 h_17) (Fz.mk h_20 h_21) e6).mono ?_
    rintro e w23 ⟨vf, rfl, hf, hup⟩
    replace hk2 := hk2.up hup
    replace hk3_15 := hk3_15.up hup
    replace hk3_17 := hk3_17.up hup
    replace hk8 := hk8.up hup
    replace hk10 := hk10.up hup
    replace hk12 := hk12.up hup
    replace hk14 := hk14.up hup
    replace hk16 := hk16.up hup
    replace h3_15 := h3_15.up hup
    replace h3_17 := h3_17.up hup
    replace h_4 := h_4.up hup
    replace h_5 := h_5.up hup
    replace h_8 := h_8.up hup
    replace h_9 := h_9.up hup
    replace h_12 := h_12.up hup
    replace h_13 := h_13.up hup
    replace h_16 := h_16.up hup
    replace h_17 := h_17.up hup
    replace hupw := hupw.trans hup
    clear hup
    obtain ⟨s_24, A_24, n_24, c_24, s_25, A_25, n_25, c_25, rfl, h_24, h_25⟩ := hf
    have hk8c0 := hk8.cell (i := 0) rfl
    have hk8c1 := hk8.cell (i := 1) rfl
    have hk8c2 := hk8.cell (i := 2) rfl
    have hk8c3 := hk8.cell (i := 3) rfl
    have hk8l := hk8.lt
    have hk3_17c0 := hk3_17.cell (i := 0) rfl
    have hk3_17c1 := hk3_17.cell (i := 1) rfl
    have hk3_17c2 := hk3_17.cell (i := 2) rfl
    have hk3_17c3 := hk3_17.cell (i := 3) rfl
    have hk3_17l := hk3_17.lt
    go_wp2_with fail
    clear hk8c0 hk8c1 hk8c2 hk8c3 hk8l hk3_17c0 hk3_17c1 hk3_17c2 hk3_17c3 hk3_17l
    obtain ⟨wa26, hwa26⟩ : ∃ x, x = (w23.alloc (.cells #[.bool s_24, .slice A_24 n_24 c_24, .bool s_25, .slice A_25 n_25 c_25] 29)) := ⟨_, rfl⟩
    have hup : Up w23 wa26 := by rw [hwa26]; exact ((Up.refl w23).alloc _)
    have howa26 : w19.heap.size < w23.heap.size := hk16.lt
    have hzwa26 : w.heap.size ≤ w23.heap.size := hupw.size
    replace hk2 := hk2.up hup
    replace hk3_15 := hk3_15.up hup
    replace hk3_17 := hk3_17.up hup
    replace hk8 := hk8.up hup
    replace hk10 := hk10.up hup
    replace hk12 := hk12.up hup
    replace hk14 := hk14.up hup
    replace h3_15 := h3_15.up hup
    replace h3_17 := h3_17.up hup
    replace h_4 := h_4.up hup
    replace h_5 := h_5.up hup
    replace h_8 := h_8.up hup
    replace h_9 := h_9.up hup
    replace h_12 := h_12.up hup
    replace h_13 := h_13.up hup
    replace h_16 := h_16.up hup
    replace h_17 := h_17.up hup
    replace h_24 := h_24.up hup
    replace h_25 := h_25.up hup
    replace hupw := hupw.trans hup
    clear hup
    have hk18 : Bk wa26 (w23.heap.size) 29 #[.bool s_24, .slice A_24 n_24 c_24, .bool s_25, .slice A_25 n_25 c_25] := by
      have := (Bk.new w23 29 #[.bool s_24, .slice A_24 n_24 c_24, .bool s_25, .slice A_25 n_25 c_25])
      rw [hwa26]; simpa using this
    rw [← hwa26]
    clear hwa26
    refine (mulOK (Fz.mk h_4 h_5) h3_17 e7).mono ?_
    rintro e w27 ⟨vf, rfl, hf, hup⟩
    replace hk2 := hk2.up hup
    replace hk3_15 := hk3_15.up hup
    replace hk3_17 := hk3_17.up hup
    replace hk8 := hk8.up hup
    replace hk10 := hk10.up hup
    replace hk12 := hk12.up hup
    replace hk14 := hk14.up hup
    replace hk18 := hk18.up hup
    replace h3_15 := h3_15.up hup
    replace h3_17 := h3_17.up hup
    replace h_4 := h_4.up hup
    replace h_5 := h_5.up hup
    replace h_8 := h_8.up hup
    replace h_9 := h_9.up hup
    replace h_12 := h_12.up hup
    replace h_13 := h_13.up hup
    replace h_16 := h_16.up hup
    replace h_17 := h_17.up hup
    replace h_24 := h_24.up hup
    replace h_25 := h_25.up hup
    replace hupw := hupw.trans hup
    clear hup
    obtain ⟨s_28, A_28, n_28, c_28, s_29, A_29, n_29, c_29, rfl, h_28, h_29⟩ := hf
    have hk8c0 := hk8.cell (i := 0) rfl
    have hk8c1 := hk8.cell (i := 1) rfl
    have hk8c2 := hk8.cell (i := 2) rfl
    have hk8c3 := hk8.cell (i := 3) rfl
    have hk8l := hk8.lt
    have hk10c0 := hk10.cell (i := 0) rfl
    have hk10c1 := hk10.cell (i := 1) rfl
    have hk10c2 := hk10.cell (i := 2) rfl
    have hk10c3 := hk10.cell (i := 3) rfl
    have hk10l := hk10.lt
    go_wp2_with fail
    clear hk8c0 hk8c1 hk8c2 hk8c3 hk8l hk10c0 hk10c1 hk10c2 hk10c3 hk10l
    obtain ⟨wa30, hwa30⟩ : ∃ x, x = (w27.alloc (.cells #[.bool s_28, .slice A_28 n_28 c_28, .bool s_29, .slice A_29 n_29 c_29] 29)) := ⟨_, rfl⟩
    have hup : Up w27 wa30 := by rw [hwa30]; exact ((Up.refl w27).alloc _)
    have howa30 : w23.heap.size < w27.heap.size := hk18.lt
    have hzwa30 : w.heap.size ≤ w27.heap.size := hupw.size
    replace hk2 := hk2.up hup
    replace hk3_15 := hk3_15.up hup
    replace hk3_17 := hk3_17.up hup
    replace hk12 := hk12.up hup
    replace hk14 := hk14.up hup
    replace hk18 := hk18.up hup
    replace h3_15 := h3_15.up hup
    replace h3_17 := h3_17.up hup
    replace h_4 := h_4.up hup
    replace h_5 := h_5.up hup
    replace h_8 := h_8.up hup
    replace h_9 := h_9.up hup
    replace h_12 := h_12.up hup
    replace h_13 := h_13.up hup
    replace h_16 := h_16.up hup
    replace h_17 := h_17.up hup
    replace h_24 := h_24.up hup
    replace h_25 := h_25.up hup
    replace h_28 := h_28.up hup
    replace h_29 := h_29.up hup
    replace hupw := hupw.trans hup
    clear hup
    have hk20 : Bk wa30 (w27.heap.size) 29 #[.bool s_28, .slice A_28 n_28 c_28, .bool s_29, .slice A_29 n_29 c_29] := by
      have := (Bk.new w27 29 #[.bool s_28, .slice A_28 n_28 c_28, .bool s_29, .slice A_29 n_29 c_29])
      rw [hwa30]; simpa using this
    rw [← hwa30]
    clear hwa30
    refine (requalF _ _ _ (Fz.mk h_4 h_5) (Fz.mk h_8 h_9)).mono ?_
    rintro e w31 ⟨rfl, hup⟩
    replace hk2 := hk2.up hup
    replace hk3_15 := hk3_15.up hup
    replace hk3_17 := hk3_17.up hup
    replace hk12 := hk12.up hup
    replace hk14 := hk14.up hup
    replace hk18 := hk18.up hup
    replace hk20 := hk20.up hup
    replace h3_15 := h3_15.up hup
    replace h3_17 := h3_17.up hup
    replace h_12 := h_12.up hup
    replace h_13 := h_13.up hup
    replace h_16 := h_16.up hup
    replace h_17 := h_17.up hup
    replace h_24 := h_24.up hup
    replace h_25 := h_25.up hup
    replace h_28 := h_28.up hup
    replace h_29 := h_29.up hup
    replace hupw := hupw.trans hup
    clear hup
    have hk12c0 := hk12.cell (i := 0) rfl
    have hk12c1 := hk12.cell (i := 1) rfl
    have hk12c2 := hk12.cell (i := 2) rfl
    have hk12c3 := hk12.cell (i := 3) rfl
    have hk12l := hk12.lt
    have hk3_15c0 := hk3_15.cell (i := 0) rfl
    have hk3_15c1 := hk3_15.cell (i := 1) rfl
    have hk3_15c2 := hk3_15.cell (i := 2) rfl
    have hk3_15c3 := hk3_15.cell (i := 3) rfl
    have hk3_15l := hk3_15.lt
    go_wp2_with fail
    clear hk12c0 hk12c1 hk12c2 hk12c3 hk12l hk3_15c0 hk3_15c1 hk3_15c2 hk3_15c3 hk3_15l
    refine (requalF _ _ _ (Fz.mk h_12 h_13) h3_15).mono ?_
    rintro e w32 ⟨rfl, hup⟩
    replace hk2 := hk2.up hup
    replace hk3_15 := hk3_15.up hup
    replace hk3_17 := hk3_17.up hup
    replace hk14 := hk14.up hup
    replace hk18 := hk18.up hup
    replace hk20 := hk20.up hup
    replace h3_15 := h3_15.up hup
    replace h3_17 := h3_17.up hup
    replace h_16 := h_16.up hup
    replace h_17 := h_17.up hup
    replace h_24 := h_24.up hup
    replace h_25 := h_25.up hup
    replace h_28 := h_28.up hup
    replace h_29 := h_29.up hup
    replace hupw := hupw.trans hup
    clear hup
    have hk18c0 := hk18.cell (i := 0) rfl
    have hk18c1 := hk18.cell (i := 1) rfl
    have hk18c2 := hk18.cell (i := 2) rfl
    have hk18c3 := hk18.cell (i := 3) rfl
    have hk18l := hk18.lt
    have hk20c0 := hk20.cell (i := 0) rfl
    have hk20c1 := hk20.cell (i := 1) rfl
    have hk20c2 := hk20.cell (i := 2) rfl
    have hk20c3 := hk20.cell (i := 3) rfl
    have hk20l := hk20.lt
    go_wp2_with fail
    clear hk18c0 hk18c1 hk18c2 hk18c3 hk18l hk20c0 hk20c1 hk20c2 hk20c3 hk20l
    refine (requalF _ _ _ (Fz.mk h_24 h_25) (Fz.mk h_28 h_29)).mono ?_
    rintro e w33 ⟨rfl, hup⟩
    replace hk2 := hk2.up hup
    replace hk3_15 := hk3_15.up hup
    replace hk3_17 := hk3_17.up hup
    replace hk14 := hk14.up hup
    replace hk20 := hk20.up hup
    replace h3_15 := h3_15.up hup
    replace h3_17 := h3_17.up hup
    replace h_16 := h_16.up hup
    replace h_17 := h_17.up hup
    replace hupw := hupw.trans hup
    clear hup
    have hk14c0 := hk14.cell (i := 0) rfl
    have hk14c1 := hk14.cell (i := 1) rfl
    have hk14c2 := hk14.cell (i := 2) rfl
    have hk14c3 := hk14.cell (i := 3) rfl
    have hk14l := hk14.lt
    have hk3_17c0 := hk3_17.cell (i := 0) rfl
    have hk3_17c1 := hk3_17.cell (i := 1) rfl
    have hk3_17c2 := hk3_17.cell (i := 2) rfl
    have hk3_17c3 := hk3_17.cell (i := 3) rfl
    have hk3_17l := hk3_17.lt
    go_wp2_with fail
    clear hk14c0 hk14c1 hk14c2 hk14c3 hk14l hk3_17c0 hk3_17c1 hk3_17c2 hk3_17c3 hk3_17l
    refine (divOK (Fz.mk h_16 h_17) h3_17 e8).mono ?_
    rintro e w34 ⟨vf, rfl, hf, hup⟩
    replace hk2 := hk2.up hup
    replace hk3_15 := hk3_15.up hup
    replace hk20 := hk20.up hup
    replace h3_15 := h3_15.up hup
    replace hupw := hupw.trans hup
    clear hup
    obtain ⟨s_35, A_35, n_35, c_35, s_36, A_36, n_36, c_36, rfl, h_35, h_36⟩ := hf
    have hk2c0 := hk2.cell (i := 0) rfl
    have hk2c1 := hk2.cell (i := 1) rfl
    have hk2c2 := hk2.cell (i := 2) rfl
    have hk2l := hk2.lt
    have hk3_15c0 := hk3_15.cell (i := 0) rfl
    have hk3_15c1 := hk3_15.cell (i := 1) rfl
    have hk3_15c2 := hk3_15.cell (i := 2) rfl
    have hk3_15c3 := hk3_15.cell (i := 3) rfl
    have hk3_15l := hk3_15.lt
    go_wp2_with fail
    clear hk2c0 hk2c1 hk2c2 hk2l hk3_15c0 hk3_15c1 hk3_15c2 hk3_15c3 hk3_15l
    obtain ⟨wa37, hwa37⟩ : ∃ x, x = (w34.alloc (.cells #[.bool s_35, .slice A_35 n_35 c_35, .bool s_36, .slice A_36 n_36 c_36] 29)) := ⟨_, rfl⟩
    have hup : Up w34 wa37 := by rw [hwa37]; exact ((Up.refl w34).alloc _)
    have howa37 : w27.heap.size < w34.heap.size := hk20.lt
    have hzwa37 : w.heap.size ≤ w34.heap.size := hupw.size
    replace h3_15 := h3_15.up hup
    replace h_35 := h_35.up hup
    replace h_36 := h_36.up hup
    replace hupw := hupw.trans hup
    clear hup
    have hk22 : Bk wa37 (w34.heap.size) 29 #[.bool s_35, .slice A_35 n_35 c_35, .bool s_36, .slice A_36 n_36 c_36] := by
      have := (Bk.new w34 29 #[.bool s_35, .slice A_35 n_35 c_35, .bool s_36, .slice A_36 n_36 c_36])
      rw [hwa37]; simpa using this
    rw [← hwa37]
    clear hwa37
    refine (requalF _ _ _ (Fz.mk h_35 h_36) h3_15).mono ?_
    rintro e w38 ⟨rfl, hup⟩
    replace hupw := hupw.trans hup
    clear hup
    go_wp2_with fail
    go_ret
    exact ⟨rfl, hupw⟩
theorem lawsW (n0 n1 n2 d0 d1 d2 : Int) (w : World) (hp : Pow w) (p0 : -32768 ≤ n0 ∧ n0 ≤ 32767) (p1 : -32768 ≤ n1 ∧ n1 ≤ 32767) (p2 : -32768 ≤ n2 ∧ n2 ≤ 32767) (s0 : 0 ≤ d0 ∧ d0 ≤ 255) (s1 : 0 ≤ d1 ∧ d1 ≤ 255) (s2 : 0 ≤ d2 ∧ d2 ≤ 255) :
    Calls Tryz.prog 6 #[.agg #[.int .i16 n0, .int .i16 n1, .int .i16 n2], .agg #[.int .u8 d0, .int .u8 d1, .int .u8 d2]] w fun e w' => e = .returned (.bool true) ∧ Up w w' := by
  obtain ⟨a, ha⟩ : ∃ a, a = fr n0 (d0 + 1) := ⟨_, rfl⟩
  obtain ⟨b, hb⟩ : ∃ b, b = fr n1 (d1 + 1) := ⟨_, rfl⟩
  obtain ⟨c, hc⟩ : ∃ c, c = fr n2 (d2 + 1) := ⟨_, rfl⟩
  have sa := smallS ha p0.1 p0.2 s0.1 s0.2
  have sb := smallS hb p1.1 p1.2 s1.1 s1.2
  have sc := smallS hc p2.1 p2.2 s2.1 s2.2
  have sab := (add_sm sa sb).mono (N' := 16777216) (D' := 65536) (by decide) (by decide)
  have sac := (mul_sm sa sc).mono (N' := 1073741824) (D' := 65536) (by decide) (by decide)
  have sbc := (mul_sm sb sc).mono (N' := 1073741824) (D' := 65536) (by decide) (by decide)
  have e1 := addR_sm sa sb (by decide) (by decide)
  have e2 : addR b a = okR (a + b) := by rw [add_swap a b]; exact addR_sm sb sa (by decide) (by decide)
  have e3 : subR (a + b) b = okR a := by rw [subR_sm sab sb (by decide) (by decide), add_back]
  have e4 := mulR_sm sa sc (by decide) (by decide)
  have e5 := mulR_sm sb sc (by decide) (by decide)
  have e6 : addR (a * c) (b * c) = okR ((a + b) * c) := by rw [addR_sm sac sbc (by decide) (by decide), mul_over]
  have e7 := mulR_sm sab sc (by decide) (by decide)
  by_cases hn : n2 = 0
  · subst hn
    have h0 : nm c = 0 := by rw [hc]; exact (nm_fr (by omega)).2 rfl
    have e8 : divR (a * c) c = noR 8 := by unfold divR; rw [if_pos h0]
    exact laws_0 w hp p0.1 p0.2 p1.1 p1.2 s0.1 s0.2 s1.1 s1.2 s2.1 s2.2 ha hb hc e1 e2 e3 e4 e5 e6 e7 e8
  · have h0 : nm c ≠ 0 := fun e => hn ((nm_fr (q := d2 + 1) (by omega)).1 (by rw [← hc]; exact e))
    have e8 : divR (a * c) c = okR a := by rw [divR_sm sac sc h0 (by decide) (by decide), mul_back a c h0]
    exact laws_n w hp p0.1 p0.2 p1.1 p1.2 p2.1 p2.2 s0.1 s0.2 s1.1 s1.2 s2.1 s2.2 ha hb hc e1 e2 e3 e4 e5 e6 e7 e8 (by rw [beq_eq_false_iff_ne]; exact hn)

end Go.Proofs.YtldifgfpecicnaaGreatDoor
