/- The law of the arithmetic. -/
import Derived.Test.YtldifgfpecicnaaGreatDoorR16
import Derived.Test.YtldifgfpecicnaaGreatDoorR7
import Derived.Test.YtldifgfpecicnaaGreatDoorR8
namespace Go.Proofs.YtldifgfpecicnaaGreatDoor
open Go.RowKit

set_option maxRecDepth 100000 in
set_option maxHeartbeats 8000000 in
theorem arithW_ {a b : Rat} (v0 v1 : Value) (w : World) (f0 : Dz w v0 a) (f1 : Dz w v1 b) (hp : Pow w) :
    Calls Tryz.prog 5 #[v0, v1] w (PB w true) := by
  have D0 := f0
  obtain ⟨s0, A0, n0, c0, t0, B0, m0, d0, rfl⟩ := f0.agg4
  clear f0
  have D1 := f1
  obtain ⟨s1, A1, n1, c1, t1, B1, m1, d1, rfl⟩ := f1.agg4
  clear f1
  have hupw : Up w w := Up.refl w
  go_enter Tryz.func5, Tryz.ntmps5
  go_wp2_with fail
  obtain ⟨wa1, hwa1⟩ : ∃ x, x = ((w.alloc (.cells #[.bool s0, .slice A0 n0 c0, .bool t0, .slice B0 m0 d0] 39)).alloc (.cells #[.bool s1, .slice A1 n1 c1, .bool t1, .slice B1 m1 d1] 39)) := ⟨_, rfl⟩
  have hup : Up w wa1 := by rw [hwa1]; exact (((Up.refl w).alloc _).alloc _)
  have hzwa1 : w.heap.size ≤ w.heap.size := hupw.size
  replace D0 := D0.up hup
  replace D1 := D1.up hup
  replace hupw := hupw.trans hup
  clear hup
  have hk2 : Bk wa1 (w.heap.size) 39 #[.bool s0, .slice A0 n0 c0, .bool t0, .slice B0 m0 d0] := by
    have := ((Bk.new w 39 #[.bool s0, .slice A0 n0 c0, .bool t0, .slice B0 m0 d0]).alloc (.cells #[.bool s1, .slice A1 n1 c1, .bool t1, .slice B1 m1 d1] 39))
    rw [hwa1]; simpa using this
  have hk3 : Bk wa1 (w.heap.size + 1) 39 #[.bool s1, .slice A1 n1 c1, .bool t1, .slice B1 m1 d1] := by
    have := (Bk.new (w.alloc (.cells #[.bool s0, .slice A0 n0 c0, .bool t0, .slice B0 m0 d0] 39)) 39 #[.bool s1, .slice A1 n1 c1, .bool t1, .slice B1 m1 d1])
    rw [hwa1]; simpa using this
  rw [← hwa1]
  clear hwa1
  refine (awakeQ (hp.up hupw)).mono ?_
  rintro e w2 ⟨rfl, hup⟩
  replace hk2 := hk2.up hup
  replace hk3 := hk3.up hup
  replace D0 := D0.up hup
  replace D1 := D1.up hup
  replace hupw := hupw.trans hup
  clear hup
  go_wp2_with fail
  refine region_inv (fun lz az W => ∃ (b0 b1 b2 b3 b4 b5 b6 b7 : Bool) (x3_0 x3_1 x3_2 x3_3 x3_4 x3_5 : Value), lz = #[b0, b1, b2, b3, b4, b5, b6, b7] ∧ az = { tmps := #[.agg #[.bool s0, .slice A0 n0 c0, .bool t0, .slice B0 m0 d0], .agg #[.bool s1, .slice A1 n1 c1, .bool t1, .slice B1 m1 d1], .pointer (some ⟨w.heap.size, 0, none⟩), .pointer (some ⟨(w.heap.size + 1), 0, none⟩), .bool false, x3_4, x3_5, undef, undef, undef, undef, undef, undef, undef, undef, undef, undef, undef, undef, undef, undef, undef, undef, undef, undef, undef, undef, .bool true, .bool false, x3_0, x3_1, x3_2, x3_3, undef, undef, undef, undef, undef, undef, undef, undef, undef, undef, undef, undef, undef, undef, undef, undef, undef, undef, undef, undef, undef, undef, undef, undef, undef, undef, undef, undef, undef, undef, undef, undef, undef, undef, undef, undef, undef, undef, undef, undef, undef, undef, undef, undef, undef, undef, undef, undef, undef, undef, undef, undef, undef, undef, undef, undef, undef, undef, undef, undef, undef, undef, undef, undef, undef, undef, undef, undef, undef, undef, undef, undef, undef, undef, undef, undef, undef, undef, undef, undef, undef, undef, undef, undef, undef, undef, undef, undef, undef, undef, undef, undef, undef, undef, undef, undef, undef, undef, undef, undef, undef, undef, undef, undef, undef, undef, undef, undef], defers := [] } ∧ Up w2 W ∧ (b0 = true → x3_0 = .agg #[.bool s0, .slice A0 n0 c0, .bool t0, .slice B0 m0 d0]) ∧ (b1 = true → Rz W x3_1 a) ∧ (b2 = true → x3_2 = .agg #[.bool s1, .slice A1 n1 c1, .bool t1, .slice B1 m1 d1]) ∧ (b3 = true → Rz W x3_3 b) ∧ (b4 = true → B4 (w2.heap.size) W x3_4 b6 x3_1) ∧ (b5 = true → B4 (w2.heap.size) W x3_5 b7 x3_3) ∧ (b6 = true → b4 = true ∧ b1 = true) ∧ (b7 = true → b5 = true ∧ b3 = true) ∧ (b4 = true → b5 = true → x3_4 ≠ x3_5)) (by kernel_rfl) (by kernel_rfl) ?hs ?h0 ?hstep ?hQ
  case hs => rintro l a W ⟨b0, b1, b2, b3, b4, b5, b6, b7, x3_0, x3_1, x3_2, x3_3, x3_4, x3_5, rfl, rfl, hup, hF0, hF1, hF2, hF3, hF4, hF5, hF6, hF7, hN4x5⟩; rfl
  case h0 => exact ⟨false, false, false, false, false, false, false, false, undef, undef, undef, undef, undef, undef, rfl, rfl, (Up.refl w2).drew, (fun h => by cases h), (fun h => by cases h), (fun h => by cases h), (fun h => by cases h), (fun h => by cases h), (fun h => by cases h), (fun h => by cases h), (fun h => by cases h), (fun h => by cases h)⟩
  case hstep =>
    rintro l a W ⟨b0, b1, b2, b3, b4, b5, b6, b7, x3_0, x3_1, x3_2, x3_3, x3_4, x3_5, rfl, rfl, hup, hF0, hF1, hF2, hF3, hF4, hF5, hF6, hF7, hN4x5⟩ i hi
    have hlt : i < 8 := ready_lt hi
    have HF0 := hide hF0
    have HF1 := hide hF1
    have HF2 := hide hF2
    have HF3 := hide hF3
    have HF4 := hide hF4
    have HF5 := hide hF5
    have HF6 := hide hF6
    have HF7 := hide hF7
    have HN4x5 := hide hN4x5
    clear hF0 hF1 hF2 hF3 hF4 hF5 hF6 hF7 hN4x5
    have hcase : i = 0 ∨ i = 1 ∨ i = 2 ∨ i = 3 ∨ i = 4 ∨ i = 5 ∨ i = 6 ∨ i = 7 := by omega
    clear hlt
    rcases hcase with rfl | rfl | rfl | rfl | rfl | rfl | rfl | rfl
    · skip
      have kc0 := (hk2.up hup).cell (i := 0) rfl
      have kc1 := (hk2.up hup).cell (i := 1) rfl
      have kc2 := (hk2.up hup).cell (i := 2) rfl
      have kc3 := (hk2.up hup).cell (i := 3) rfl
      clear hi
      refine wpOp_step rfl (fun K hK => ?_)
      go_simp
      refine hK _ _ ?_
      clear hK K
      exact ⟨true, b1, b2, b3, b4, b5, b6, b7, .agg #[.bool s0, .slice A0 n0 c0, .bool t0, .slice B0 m0 d0], x3_1, x3_2, x3_3, x3_4, x3_5, rfl, rfl, hup, (fun _ => rfl), HF1.out, HF2.out, HF3.out, HF4.out, HF5.out, HF6.out, HF7.out, HN4x5.out⟩
    · skip
      have hb : b0 = true := getB (l := [b0, b1, b2, b3, b4, b5, b6, b7]) (ready_dep hi rfl 0 (by kernel_rfl)) rfl
      have hx := HF0.out hb
      clear hb
      subst hx
      have hn := ready_not hi
      have hst6 : b6 = false := by
        cases e : b6 with
        | false => rfl
        | true => have h5 := (HF6.out e).2; rw [h5] at hn; cases hn
      have Hst6 := hide hst6
      clear hst6
      clear hn
      clear hi
      refine wpOp_step rfl (fun K hK => ?_)
      go_simp
      refine (made_r (D0.up hup)).mono ?_
      rintro e w1 ⟨v1, rfl, hv1, hup1⟩
      go_wp2_with fail
      exact ⟨b0, true, b2, b3, b4, b5, b6, b7, .agg #[.bool s0, .slice A0 n0 c0, .bool t0, .slice B0 m0 d0], v1, x3_2, x3_3, x3_4, x3_5, rfl, rfl, hup.trans hup1, (fun _ => rfl), (fun _ => hv1), HF2.out, (fun h => (HF3.out h).up hup1), (fun h => ((HF4.out h).up hup1).unfilled Hst6.out _), (fun h => (HF5.out h).up hup1), (fun h => ⟨(HF6.out h).1, rfl⟩), HF7.out, HN4x5.out⟩
    · skip
      have kc0 := (hk3.up hup).cell (i := 0) rfl
      have kc1 := (hk3.up hup).cell (i := 1) rfl
      have kc2 := (hk3.up hup).cell (i := 2) rfl
      have kc3 := (hk3.up hup).cell (i := 3) rfl
      clear hi
      refine wpOp_step rfl (fun K hK => ?_)
      go_simp
      refine hK _ _ ?_
      clear hK K
      exact ⟨b0, b1, true, b3, b4, b5, b6, b7, x3_0, x3_1, .agg #[.bool s1, .slice A1 n1 c1, .bool t1, .slice B1 m1 d1], x3_3, x3_4, x3_5, rfl, rfl, hup, HF0.out, HF1.out, (fun _ => rfl), HF3.out, HF4.out, HF5.out, HF6.out, HF7.out, HN4x5.out⟩
    · skip
      have hb : b2 = true := getB (l := [b0, b1, b2, b3, b4, b5, b6, b7]) (ready_dep hi rfl 2 (by kernel_rfl)) rfl
      have hx := HF2.out hb
      clear hb
      subst hx
      have hn := ready_not hi
      have hst7 : b7 = false := by
        cases e : b7 with
        | false => rfl
        | true => have h5 := (HF7.out e).2; rw [h5] at hn; cases hn
      have Hst7 := hide hst7
      clear hst7
      clear hn
      clear hi
      refine wpOp_step rfl (fun K hK => ?_)
      go_simp
      refine (made_r (D1.up hup)).mono ?_
      rintro e w1 ⟨v1, rfl, hv1, hup1⟩
      go_wp2_with fail
      exact ⟨b0, b1, b2, true, b4, b5, b6, b7, x3_0, x3_1, .agg #[.bool s1, .slice A1 n1 c1, .bool t1, .slice B1 m1 d1], v1, x3_4, x3_5, rfl, rfl, hup.trans hup1, HF0.out, (fun h => (HF1.out h).up hup1), (fun _ => rfl), (fun _ => hv1), (fun h => (HF4.out h).up hup1), (fun h => ((HF5.out h).up hup1).unfilled Hst7.out _), HF6.out, (fun h => ⟨(HF7.out h).1, rfl⟩), HN4x5.out⟩
    · skip
      have hn := ready_not hi
      have hst6 : b6 = false := by
        cases e : b6 with
        | false => rfl
        | true => have h5 := (HF6.out e).1; rw [h5] at hn; cases hn
      have Hst6 := hide hst6
      clear hst6
      clear hn
      clear hi
      have hsz := hup.size
      have hupA := (Up.refl W).alloc (.cells #[.bool false, .slice none 0 0, .bool false, .slice none 0 0] 29)
      refine wpOp_step rfl (fun K hK => ?_)
      go_simp
      refine hK _ _ ?_
      clear hK K
      exact ⟨b0, b1, b2, b3, true, b5, b6, b7, x3_0, x3_1, x3_2, x3_3, .pointer (some ⟨W.heap.size, 0, none⟩), x3_5, rfl, rfl, hup.trans hupA, HF0.out, (fun h => (HF1.out h).up hupA), HF2.out, (fun h => (HF3.out h).up hupA), (fun _ => by rw [Hst6.out]; exact B4.new _ W _ hsz), (fun h => (HF5.out h).up hupA), (fun h => ⟨rfl, (HF6.out h).2⟩), HF7.out, (fun _ h => (HF5.out h).ne_new.symm)⟩
    · skip
      have hn := ready_not hi
      have hst7 : b7 = false := by
        cases e : b7 with
        | false => rfl
        | true => have h5 := (HF7.out e).1; rw [h5] at hn; cases hn
      have Hst7 := hide hst7
      clear hst7
      clear hn
      clear hi
      have hsz := hup.size
      have hupA := (Up.refl W).alloc (.cells #[.bool false, .slice none 0 0, .bool false, .slice none 0 0] 29)
      refine wpOp_step rfl (fun K hK => ?_)
      go_simp
      refine hK _ _ ?_
      clear hK K
      exact ⟨b0, b1, b2, b3, b4, true, b6, b7, x3_0, x3_1, x3_2, x3_3, x3_4, .pointer (some ⟨W.heap.size, 0, none⟩), rfl, rfl, hup.trans hupA, HF0.out, (fun h => (HF1.out h).up hupA), HF2.out, (fun h => (HF3.out h).up hupA), (fun h => (HF4.out h).up hupA), (fun _ => by rw [Hst7.out]; exact B4.new _ W _ hsz), HF6.out, (fun h => ⟨rfl, (HF7.out h).2⟩), (fun h _ => (HF4.out h).ne_new)⟩
    · skip
      have hb2 : b4 = true := getB (l := [b0, b1, b2, b3, b4, b5, b6, b7]) (ready_dep hi rfl 4 (by kernel_rfl)) rfl
      have hb1 : b1 = true := getB (l := [b0, b1, b2, b3, b4, b5, b6, b7]) (ready_dep hi rfl 1 (by kernel_rfl)) rfl
      clear hi
      obtain ⟨s9, A9, n9, c9, t9, C9, m9, d9, hxc⟩ := (HF1.out hb1).agg4
      subst hxc
      obtain ⟨g, s8, A8, n8, c8, t8, C8, m8, d8, hxb, hgB, hbk, _⟩ := HF4.out hb2
      subst hxb
      have f0 := hbk.cell (i := 0) rfl
      have z0 := hbk.frozen 0
      have f1 := hbk.cell (i := 1) rfl
      have z1 := hbk.frozen 1
      have f2 := hbk.cell (i := 2) rfl
      have z2 := hbk.frozen 2
      have f3 := hbk.cell (i := 3) rfl
      have z3 := hbk.frozen 3
      have Hb1 := hide hb1
      have Hb2 := hide hb2
      have hsz := hup.size
      clear hb1 hb2
      refine wpOp_step rfl (fun K hK => ?_)
      go_simp
      refine hK _ _ ?_
      clear hK K
      exact ⟨b0, b1, b2, b3, b4, b5, true, b7, x3_0, .agg #[.bool s9, .slice A9 n9 c9, .bool t9, .slice C9 m9 d9], x3_2, x3_3, .pointer (some ⟨g, 0, none⟩), x3_5, rfl, rfl, hup.st4 (g := g) hgB _ _ _ _, HF0.out, (fun h => (HF1.out h).st4 hbk (noU4 _ _ _ _ _ _ _ _) _ _ _ _), HF2.out, (fun h => (HF3.out h).st4 hbk (noU4 _ _ _ _ _ _ _ _) _ _ _ _), (fun _ => hbk.fill4 hgB), (fun h => (HF5.out h).far ((HN4x5.out Hb2.out h).symm) _ _ _ _), (fun _ => ⟨Hb2.out, Hb1.out⟩), HF7.out, HN4x5.out⟩
    · skip
      have hb2 : b5 = true := getB (l := [b0, b1, b2, b3, b4, b5, b6, b7]) (ready_dep hi rfl 5 (by kernel_rfl)) rfl
      have hb1 : b3 = true := getB (l := [b0, b1, b2, b3, b4, b5, b6, b7]) (ready_dep hi rfl 3 (by kernel_rfl)) rfl
      clear hi
      obtain ⟨s9, A9, n9, c9, t9, C9, m9, d9, hxc⟩ := (HF3.out hb1).agg4
      subst hxc
      obtain ⟨g, s8, A8, n8, c8, t8, C8, m8, d8, hxb, hgB, hbk, _⟩ := HF5.out hb2
      subst hxb
      have f0 := hbk.cell (i := 0) rfl
      have z0 := hbk.frozen 0
      have f1 := hbk.cell (i := 1) rfl
      have z1 := hbk.frozen 1
      have f2 := hbk.cell (i := 2) rfl
      have z2 := hbk.frozen 2
      have f3 := hbk.cell (i := 3) rfl
      have z3 := hbk.frozen 3
      have Hb1 := hide hb1
      have Hb2 := hide hb2
      have hsz := hup.size
      clear hb1 hb2
      refine wpOp_step rfl (fun K hK => ?_)
      go_simp
      refine hK _ _ ?_
      clear hK K
      exact ⟨b0, b1, b2, b3, b4, b5, b6, true, x3_0, x3_1, x3_2, .agg #[.bool s9, .slice A9 n9 c9, .bool t9, .slice C9 m9 d9], x3_4, .pointer (some ⟨g, 0, none⟩), rfl, rfl, hup.st4 (g := g) hgB _ _ _ _, HF0.out, (fun h => (HF1.out h).st4 hbk (noU4 _ _ _ _ _ _ _ _) _ _ _ _), HF2.out, (fun h => (HF3.out h).st4 hbk (noU4 _ _ _ _ _ _ _ _) _ _ _ _), (fun h => (HF4.out h).far (HN4x5.out h Hb2.out) _ _ _ _), (fun _ => hbk.fill4 hgB), HF6.out, (fun _ => ⟨Hb2.out, Hb1.out⟩), HN4x5.out⟩
  case hQ =>
    rintro l a W3_ ⟨b0, b1, b2, b3, b4, b5, b6, b7, x3_0, x3_1, x3_2, x3_3, x3_4, x3_5, rfl, rfl, hup, hF0, hF1, hF2, hF3, hF4, hF5, hF6, hF7, hN4x5⟩ hall
    have hb0 : b0 = true := getB (l := [b0, b1, b2, b3, b4, b5, b6, b7]) (hall 0 (by decide)) rfl
    have hb1 : b1 = true := getB (l := [b0, b1, b2, b3, b4, b5, b6, b7]) (hall 1 (by decide)) rfl
    have hb2 : b2 = true := getB (l := [b0, b1, b2, b3, b4, b5, b6, b7]) (hall 2 (by decide)) rfl
    have hb3 : b3 = true := getB (l := [b0, b1, b2, b3, b4, b5, b6, b7]) (hall 3 (by decide)) rfl
    have hb4 : b4 = true := getB (l := [b0, b1, b2, b3, b4, b5, b6, b7]) (hall 4 (by decide)) rfl
    have hb5 : b5 = true := getB (l := [b0, b1, b2, b3, b4, b5, b6, b7]) (hall 5 (by decide)) rfl
    have hb6 : b6 = true := getB (l := [b0, b1, b2, b3, b4, b5, b6, b7]) (hall 6 (by decide)) rfl
    have hb7 : b7 = true := getB (l := [b0, b1, b2, b3, b4, b5, b6, b7]) (hall 7 (by decide)) rfl
    subst hb0 hb1 hb2 hb3 hb4 hb5 hb6 hb7
    clear hall
    have m0 := hF0 rfl
    have m1 := hF1 rfl
    have m2 := hF2 rfl
    have m3 := hF3 rfl
    have m4 := hF4 rfl
    have m5 := hF5 rfl
    have mN4x5 := hN4x5 rfl rfl
    clear hF0 hF1 hF2 hF3 hF4 hF5 hF6 hF7 hN4x5
    have hzI3 : w.heap.size ≤ w2.heap.size := hupw.size
    have hoI3 : (w.heap.size + 1) < w2.heap.size := hk3.lt
    replace hupw := hupw.trans hup
    clear hup
    obtain ⟨g3_4, s3_4, A3_4, n3_4, c3_4, t3_4, C3_4, m3_4, d3_4, rfl, hg3_4, hk3_4, he3_4⟩ := m4
    obtain rfl := he3_4 rfl
    clear he3_4
    have h3_4 := m1
    obtain ⟨g3_5, s3_5, A3_5, n3_5, c3_5, t3_5, C3_5, m3_5, d3_5, rfl, hg3_5, hk3_5, he3_5⟩ := m5
    obtain rfl := he3_5 rfl
    clear he3_5
    have h3_5 := m3
    obtain rfl := m0
    obtain rfl := m2
    have hne3_4_5 : g3_4 ≠ g3_5 := fun e => mN4x5 (by rw [e])
    clear mN4x5
    have hk3_4c0 := hk3_4.cell (i := 0) rfl
    have hk3_4c1 := hk3_4.cell (i := 1) rfl
    have hk3_4c2 := hk3_4.cell (i := 2) rfl
    have hk3_4c3 := hk3_4.cell (i := 3) rfl
    have hk3_4l := hk3_4.lt
    have hk3_5c0 := hk3_5.cell (i := 0) rfl
    have hk3_5c1 := hk3_5.cell (i := 1) rfl
    have hk3_5c2 := hk3_5.cell (i := 2) rfl
    have hk3_5c3 := hk3_5.cell (i := 3) rfl
    have hk3_5l := hk3_5.lt
    go_wp2_with fail
    clear hk3_4c0 hk3_4c1 hk3_4c2 hk3_4c3 hk3_4l hk3_5c0 hk3_5c1 hk3_5c2 hk3_5c3 hk3_5l
    refine (addRQ _ _ _ h3_4 h3_5).mono ?_
    rintro e w3 ⟨vf, rfl, hf, hup⟩
    replace hk3_4 := hk3_4.up hup
    replace hk3_5 := hk3_5.up hup
    replace h3_4 := h3_4.up hup
    replace h3_5 := h3_5.up hup
    replace hupw := hupw.trans hup
    clear hup
    obtain ⟨s_4, A_4, n_4, c_4, s_5, A_5, n_5, c_5, rfl, h_4, h_5⟩ := hf
    have hk3_4c0 := hk3_4.cell (i := 0) rfl
    have hk3_4c1 := hk3_4.cell (i := 1) rfl
    have hk3_4c2 := hk3_4.cell (i := 2) rfl
    have hk3_4c3 := hk3_4.cell (i := 3) rfl
    have hk3_4l := hk3_4.lt
    have hk3_5c0 := hk3_5.cell (i := 0) rfl
    have hk3_5c1 := hk3_5.cell (i := 1) rfl
    have hk3_5c2 := hk3_5.cell (i := 2) rfl
    have hk3_5c3 := hk3_5.cell (i := 3) rfl
    have hk3_5l := hk3_5.lt
    go_wp2_with fail
    clear hk3_4c0 hk3_4c1 hk3_4c2 hk3_4c3 hk3_4l hk3_5c0 hk3_5c1 hk3_5c2 hk3_5c3 hk3_5l
    obtain ⟨wa6, hwa6⟩ : ∃ x, x = (w3.alloc (.cells #[.bool s_4, .slice A_4 n_4 c_4, .bool s_5, .slice A_5 n_5 c_5] 29)) := ⟨_, rfl⟩
    have hup : Up w3 wa6 := by rw [hwa6]; exact ((Up.refl w3).alloc _)
    have howa6 : g3_4 < w3.heap.size := hk3_4.lt
    have howa6_1 : g3_5 < w3.heap.size := hk3_5.lt
    have hzwa6 : w.heap.size ≤ w3.heap.size := hupw.size
    replace hk3_4 := hk3_4.up hup
    replace hk3_5 := hk3_5.up hup
    replace h3_4 := h3_4.up hup
    replace h3_5 := h3_5.up hup
    replace h_4 := h_4.up hup
    replace h_5 := h_5.up hup
    replace hupw := hupw.trans hup
    clear hup
    have hk7 : Bk wa6 (w3.heap.size) 29 #[.bool s_4, .slice A_4 n_4 c_4, .bool s_5, .slice A_5 n_5 c_5] := by
      have := (Bk.new w3 29 #[.bool s_4, .slice A_4 n_4 c_4, .bool s_5, .slice A_5 n_5 c_5])
      rw [hwa6]; simpa using this
    rw [← hwa6]
    clear hwa6
    refine (raddRQ _ _ _ h3_4 h3_5).mono ?_
    rintro e w7 ⟨vf, rfl, hf, hup⟩
    replace hk3_4 := hk3_4.up hup
    replace hk3_5 := hk3_5.up hup
    replace hk7 := hk7.up hup
    replace h3_4 := h3_4.up hup
    replace h3_5 := h3_5.up hup
    replace h_4 := h_4.up hup
    replace h_5 := h_5.up hup
    replace hupw := hupw.trans hup
    clear hup
    obtain ⟨s_8, A_8, n_8, c_8, s_9, A_9, n_9, c_9, rfl, h_8, h_9⟩ := hf
    have hk3_4c0 := hk3_4.cell (i := 0) rfl
    have hk3_4c1 := hk3_4.cell (i := 1) rfl
    have hk3_4c2 := hk3_4.cell (i := 2) rfl
    have hk3_4c3 := hk3_4.cell (i := 3) rfl
    have hk3_4l := hk3_4.lt
    have hk3_5c0 := hk3_5.cell (i := 0) rfl
    have hk3_5c1 := hk3_5.cell (i := 1) rfl
    have hk3_5c2 := hk3_5.cell (i := 2) rfl
    have hk3_5c3 := hk3_5.cell (i := 3) rfl
    have hk3_5l := hk3_5.lt
    go_wp2_with fail
    clear hk3_4c0 hk3_4c1 hk3_4c2 hk3_4c3 hk3_4l hk3_5c0 hk3_5c1 hk3_5c2 hk3_5c3 hk3_5l
    obtain ⟨wa10, hwa10⟩ : ∃ x, x = (w7.alloc (.cells #[.bool s_8, .slice A_8 n_8 c_8, .bool s_9, .slice A_9 n_9 c_9] 29)) := ⟨_, rfl⟩
    have hup : Up w7 wa10 := by rw [hwa10]; exact ((Up.refl w7).alloc _)
    have howa10 : w3.heap.size < w7.heap.size := hk7.lt
    have hzwa10 : w.heap.size ≤ w7.heap.size := hupw.size
    replace hk3_4 := hk3_4.up hup
    replace hk3_5 := hk3_5.up hup
    replace hk7 := hk7.up hup
    replace h3_4 := h3_4.up hup
    replace h3_5 := h3_5.up hup
    replace h_4 := h_4.up hup
    replace h_5 := h_5.up hup
    replace h_8 := h_8.up hup
    replace h_9 := h_9.up hup
    replace hupw := hupw.trans hup
    clear hup
    have hk9 : Bk wa10 (w7.heap.size) 29 #[.bool s_8, .slice A_8 n_8 c_8, .bool s_9, .slice A_9 n_9 c_9] := by
      have := (Bk.new w7 29 #[.bool s_8, .slice A_8 n_8 c_8, .bool s_9, .slice A_9 n_9 c_9])
      rw [hwa10]; simpa using this
    rw [← hwa10]
    clear hwa10
    refine (subRQ _ _ _ h3_4 h3_5).mono ?_
    rintro e w11 ⟨vf, rfl, hf, hup⟩
    replace hk3_4 := hk3_4.up hup
    replace hk3_5 := hk3_5.up hup
    replace hk7 := hk7.up hup
    replace hk9 := hk9.up hup
    replace h3_4 := h3_4.up hup
    replace h3_5 := h3_5.up hup
    replace h_4 := h_4.up hup
    replace h_5 := h_5.up hup
    replace h_8 := h_8.up hup
    replace h_9 := h_9.up hup
    replace hupw := hupw.trans hup
    clear hup
    obtain ⟨s_12, A_12, n_12, c_12, s_13, A_13, n_13, c_13, rfl, h_12, h_13⟩ := hf
    have hk3_4c0 := hk3_4.cell (i := 0) rfl
    have hk3_4c1 := hk3_4.cell (i := 1) rfl
    have hk3_4c2 := hk3_4.cell (i := 2) rfl
    have hk3_4c3 := hk3_4.cell (i := 3) rfl
    have hk3_4l := hk3_4.lt
    have hk3_5c0 := hk3_5.cell (i := 0) rfl
    have hk3_5c1 := hk3_5.cell (i := 1) rfl
    have hk3_5c2 := hk3_5.cell (i := 2) rfl
    have hk3_5c3 := hk3_5.cell (i := 3) rfl
    have hk3_5l := hk3_5.lt
    go_wp2_with fail
    clear hk3_4c0 hk3_4c1 hk3_4c2 hk3_4c3 hk3_4l hk3_5c0 hk3_5c1 hk3_5c2 hk3_5c3 hk3_5l
    obtain ⟨wa14, hwa14⟩ : ∃ x, x = (w11.alloc (.cells #[.bool s_12, .slice A_12 n_12 c_12, .bool s_13, .slice A_13 n_13 c_13] 29)) := ⟨_, rfl⟩
    have hup : Up w11 wa14 := by rw [hwa14]; exact ((Up.refl w11).alloc _)
    have howa14 : w7.heap.size < w11.heap.size := hk9.lt
    have hzwa14 : w.heap.size ≤ w11.heap.size := hupw.size
    replace hk3_4 := hk3_4.up hup
    replace hk3_5 := hk3_5.up hup
    replace hk7 := hk7.up hup
    replace hk9 := hk9.up hup
    replace h3_4 := h3_4.up hup
    replace h3_5 := h3_5.up hup
    replace h_4 := h_4.up hup
    replace h_5 := h_5.up hup
    replace h_8 := h_8.up hup
    replace h_9 := h_9.up hup
    replace h_12 := h_12.up hup
    replace h_13 := h_13.up hup
    replace hupw := hupw.trans hup
    clear hup
    have hk11 : Bk wa14 (w11.heap.size) 29 #[.bool s_12, .slice A_12 n_12 c_12, .bool s_13, .slice A_13 n_13 c_13] := by
      have := (Bk.new w11 29 #[.bool s_12, .slice A_12 n_12 c_12, .bool s_13, .slice A_13 n_13 c_13])
      rw [hwa14]; simpa using this
    rw [← hwa14]
    clear hwa14
    refine (rsubRQ _ _ _ h3_4 h3_5).mono ?_
    rintro e w15 ⟨vf, rfl, hf, hup⟩
    replace hk3_4 := hk3_4.up hup
    replace hk3_5 := hk3_5.up hup
    replace hk7 := hk7.up hup
    replace hk9 := hk9.up hup
    replace hk11 := hk11.up hup
    replace h3_4 := h3_4.up hup
    replace h3_5 := h3_5.up hup
    replace h_4 := h_4.up hup
    replace h_5 := h_5.up hup
    replace h_8 := h_8.up hup
    replace h_9 := h_9.up hup
    replace h_12 := h_12.up hup
    replace h_13 := h_13.up hup
    replace hupw := hupw.trans hup
    clear hup
    obtain ⟨s_16, A_16, n_16, c_16, s_17, A_17, n_17, c_17, rfl, h_16, h_17⟩ := hf
    have hk3_4c0 := hk3_4.cell (i := 0) rfl
    have hk3_4c1 := hk3_4.cell (i := 1) rfl
    have hk3_4c2 := hk3_4.cell (i := 2) rfl
    have hk3_4c3 := hk3_4.cell (i := 3) rfl
    have hk3_4l := hk3_4.lt
    have hk3_5c0 := hk3_5.cell (i := 0) rfl
    have hk3_5c1 := hk3_5.cell (i := 1) rfl
    have hk3_5c2 := hk3_5.cell (i := 2) rfl
    have hk3_5c3 := hk3_5.cell (i := 3) rfl
    have hk3_5l := hk3_5.lt
    go_wp2_with fail
    clear hk3_4c0 hk3_4c1 hk3_4c2 hk3_4c3 hk3_4l hk3_5c0 hk3_5c1 hk3_5c2 hk3_5c3 hk3_5l
    obtain ⟨wa18, hwa18⟩ : ∃ x, x = (w15.alloc (.cells #[.bool s_16, .slice A_16 n_16 c_16, .bool s_17, .slice A_17 n_17 c_17] 29)) := ⟨_, rfl⟩
    have hup : Up w15 wa18 := by rw [hwa18]; exact ((Up.refl w15).alloc _)
    have howa18 : w11.heap.size < w15.heap.size := hk11.lt
    have hzwa18 : w.heap.size ≤ w15.heap.size := hupw.size
    replace hk3_4 := hk3_4.up hup
    replace hk3_5 := hk3_5.up hup
    replace hk7 := hk7.up hup
    replace hk9 := hk9.up hup
    replace hk11 := hk11.up hup
    replace h3_4 := h3_4.up hup
    replace h3_5 := h3_5.up hup
    replace h_4 := h_4.up hup
    replace h_5 := h_5.up hup
    replace h_8 := h_8.up hup
    replace h_9 := h_9.up hup
    replace h_12 := h_12.up hup
    replace h_13 := h_13.up hup
    replace h_16 := h_16.up hup
    replace h_17 := h_17.up hup
    replace hupw := hupw.trans hup
    clear hup
    have hk13 : Bk wa18 (w15.heap.size) 29 #[.bool s_16, .slice A_16 n_16 c_16, .bool s_17, .slice A_17 n_17 c_17] := by
      have := (Bk.new w15 29 #[.bool s_16, .slice A_16 n_16 c_16, .bool s_17, .slice A_17 n_17 c_17])
      rw [hwa18]; simpa using this
    rw [← hwa18]
    clear hwa18
    refine (mulRQ _ _ _ h3_4 h3_5).mono ?_
    rintro e w19 ⟨vf, rfl, hf, hup⟩
    replace hk3_4 := hk3_4.up hup
    replace hk3_5 := hk3_5.up hup
    replace hk7 := hk7.up hup
    replace hk9 := hk9.up hup
    replace hk11 := hk11.up hup
    replace hk13 := hk13.up hup
    replace h3_4 := h3_4.up hup
    replace h3_5 := h3_5.up hup
    replace h_4 := h_4.up hup
    replace h_5 := h_5.up hup
    replace h_8 := h_8.up hup
    replace h_9 := h_9.up hup
    replace h_12 := h_12.up hup
    replace h_13 := h_13.up hup
    replace h_16 := h_16.up hup
    replace h_17 := h_17.up hup
    replace hupw := hupw.trans hup
    clear hup
    obtain ⟨s_20, A_20, n_20, c_20, s_21, A_21, n_21, c_21, rfl, h_20, h_21⟩ := hf
    have hk3_4c0 := hk3_4.cell (i := 0) rfl
    have hk3_4c1 := hk3_4.cell (i := 1) rfl
    have hk3_4c2 := hk3_4.cell (i := 2) rfl
    have hk3_4c3 := hk3_4.cell (i := 3) rfl
    have hk3_4l := hk3_4.lt
    have hk3_5c0 := hk3_5.cell (i := 0) rfl
    have hk3_5c1 := hk3_5.cell (i := 1) rfl
    have hk3_5c2 := hk3_5.cell (i := 2) rfl
    have hk3_5c3 := hk3_5.cell (i := 3) rfl
    have hk3_5l := hk3_5.lt
    go_wp2_with fail
    clear hk3_4c0 hk3_4c1 hk3_4c2 hk3_4c3 hk3_4l hk3_5c0 hk3_5c1 hk3_5c2 hk3_5c3 hk3_5l
    obtain ⟨wa22, hwa22⟩ : ∃ x, x = (w19.alloc (.cells #[.bool s_20, .slice A_20 n_20 c_20, .bool s_21, .slice A_21 n_21 c_21] 29)) := ⟨_, rfl⟩
    have hup : Up w19 wa22 := by rw [hwa22]; exact ((Up.refl w19).alloc _)
    have howa22 : w15.heap.size < w19.heap.size := hk13.lt
    have hzwa22 : w.heap.size ≤ w19.heap.size := hupw.size
    replace hk3_4 := hk3_4.up hup
    replace hk3_5 := hk3_5.up hup
    replace hk7 := hk7.up hup
    replace hk9 := hk9.up hup
    replace hk11 := hk11.up hup
    replace hk13 := hk13.up hup
    replace h3_4 := h3_4.up hup
    replace h3_5 := h3_5.up hup
    replace h_4 := h_4.up hup
    replace h_5 := h_5.up hup
    replace h_8 := h_8.up hup
    replace h_9 := h_9.up hup
    replace h_12 := h_12.up hup
    replace h_13 := h_13.up hup
    replace h_16 := h_16.up hup
    replace h_17 := h_17.up hup
    replace h_20 := h_20.up hup
    replace h_21 := h_21.up hup
    replace hupw := hupw.trans hup
    clear hup
    have hk15 : Bk wa22 (w19.heap.size) 29 #[.bool s_20, .slice A_20 n_20 c_20, .bool s_21, .slice A_21 n_21 c_21] := by
      have := (Bk.new w19 29 #[.bool s_20, .slice A_20 n_20 c_20, .bool s_21, .slice A_21 n_21 c_21])
      rw [hwa22]; simpa using this
    rw [← hwa22]
    clear hwa22
    refine (rmulRQ h3_4 h3_5).mono ?_
    rintro e w23 ⟨vf, rfl, hf, hup⟩
    replace hk3_4 := hk3_4.up hup
    replace hk3_5 := hk3_5.up hup
    replace hk7 := hk7.up hup
    replace hk9 := hk9.up hup
    replace hk11 := hk11.up hup
    replace hk13 := hk13.up hup
    replace hk15 := hk15.up hup
    replace h3_4 := h3_4.up hup
    replace h3_5 := h3_5.up hup
    replace h_4 := h_4.up hup
    replace h_5 := h_5.up hup
    replace h_8 := h_8.up hup
    replace h_9 := h_9.up hup
    replace h_12 := h_12.up hup
    replace h_13 := h_13.up hup
    replace h_16 := h_16.up hup
    replace h_17 := h_17.up hup
    replace h_20 := h_20.up hup
    replace h_21 := h_21.up hup
    replace hupw := hupw.trans hup
    clear hup
    obtain ⟨s_24, A_24, n_24, c_24, s_25, A_25, n_25, c_25, rfl, h_24, h_25⟩ := hf
    have hk3_4c0 := hk3_4.cell (i := 0) rfl
    have hk3_4c1 := hk3_4.cell (i := 1) rfl
    have hk3_4c2 := hk3_4.cell (i := 2) rfl
    have hk3_4c3 := hk3_4.cell (i := 3) rfl
    have hk3_4l := hk3_4.lt
    have hk3_5c0 := hk3_5.cell (i := 0) rfl
    have hk3_5c1 := hk3_5.cell (i := 1) rfl
    have hk3_5c2 := hk3_5.cell (i := 2) rfl
    have hk3_5c3 := hk3_5.cell (i := 3) rfl
    have hk3_5l := hk3_5.lt
    go_wp2_with fail
    clear hk3_4c0 hk3_4c1 hk3_4c2 hk3_4c3 hk3_4l hk3_5c0 hk3_5c1 hk3_5c2 hk3_5c3 hk3_5l
    obtain ⟨wa26, hwa26⟩ : ∃ x, x = (w23.alloc (.cells #[.bool s_24, .slice A_24 n_24 c_24, .bool s_25, .slice A_25 n_25 c_25] 29)) := ⟨_, rfl⟩
    have hup : Up w23 wa26 := by rw [hwa26]; exact ((Up.refl w23).alloc _)
    have howa26 : w19.heap.size < w23.heap.size := hk15.lt
    have hzwa26 : w.heap.size ≤ w23.heap.size := hupw.size
    replace hk3_4 := hk3_4.up hup
    replace hk3_5 := hk3_5.up hup
    replace hk7 := hk7.up hup
    replace hk9 := hk9.up hup
    replace hk11 := hk11.up hup
    replace hk13 := hk13.up hup
    replace hk15 := hk15.up hup
    replace h3_4 := h3_4.up hup
    replace h3_5 := h3_5.up hup
    replace h_4 := h_4.up hup
    replace h_5 := h_5.up hup
    replace h_8 := h_8.up hup
    replace h_9 := h_9.up hup
    replace h_12 := h_12.up hup
    replace h_13 := h_13.up hup
    replace h_16 := h_16.up hup
    replace h_17 := h_17.up hup
    replace h_20 := h_20.up hup
    replace h_21 := h_21.up hup
    replace h_24 := h_24.up hup
    replace h_25 := h_25.up hup
    replace hupw := hupw.trans hup
    clear hup
    have hk17 : Bk wa26 (w23.heap.size) 29 #[.bool s_24, .slice A_24 n_24 c_24, .bool s_25, .slice A_25 n_25 c_25] := by
      have := (Bk.new w23 29 #[.bool s_24, .slice A_24 n_24 c_24, .bool s_25, .slice A_25 n_25 c_25])
      rw [hwa26]; simpa using this
    rw [← hwa26]
    clear hwa26
    refine (divRQ h3_4 h3_5).mono ?_
    rintro e w27 ⟨vf, rfl, hf, hup⟩
    replace hk3_4 := hk3_4.up hup
    replace hk3_5 := hk3_5.up hup
    replace hk7 := hk7.up hup
    replace hk9 := hk9.up hup
    replace hk11 := hk11.up hup
    replace hk13 := hk13.up hup
    replace hk15 := hk15.up hup
    replace hk17 := hk17.up hup
    replace h3_4 := h3_4.up hup
    replace h3_5 := h3_5.up hup
    replace h_4 := h_4.up hup
    replace h_5 := h_5.up hup
    replace h_8 := h_8.up hup
    replace h_9 := h_9.up hup
    replace h_12 := h_12.up hup
    replace h_13 := h_13.up hup
    replace h_16 := h_16.up hup
    replace h_17 := h_17.up hup
    replace h_20 := h_20.up hup
    replace h_21 := h_21.up hup
    replace h_24 := h_24.up hup
    replace h_25 := h_25.up hup
    replace hupw := hupw.trans hup
    clear hup
    obtain ⟨s_28, A_28, n_28, c_28, s_29, A_29, n_29, c_29, rfl, h_28, h_29⟩ := hf
    have hk3_4c0 := hk3_4.cell (i := 0) rfl
    have hk3_4c1 := hk3_4.cell (i := 1) rfl
    have hk3_4c2 := hk3_4.cell (i := 2) rfl
    have hk3_4c3 := hk3_4.cell (i := 3) rfl
    have hk3_4l := hk3_4.lt
    have hk3_5c0 := hk3_5.cell (i := 0) rfl
    have hk3_5c1 := hk3_5.cell (i := 1) rfl
    have hk3_5c2 := hk3_5.cell (i := 2) rfl
    have hk3_5c3 := hk3_5.cell (i := 3) rfl
    have hk3_5l := hk3_5.lt
    go_wp2_with fail
    clear hk3_4c0 hk3_4c1 hk3_4c2 hk3_4c3 hk3_4l hk3_5c0 hk3_5c1 hk3_5c2 hk3_5c3 hk3_5l
    obtain ⟨wa30, hwa30⟩ : ∃ x, x = (w27.alloc (.cells #[.bool s_28, .slice A_28 n_28 c_28, .bool s_29, .slice A_29 n_29 c_29] 29)) := ⟨_, rfl⟩
    have hup : Up w27 wa30 := by rw [hwa30]; exact ((Up.refl w27).alloc _)
    have howa30 : w23.heap.size < w27.heap.size := hk17.lt
    have hzwa30 : w.heap.size ≤ w27.heap.size := hupw.size
    replace hk3_4 := hk3_4.up hup
    replace hk3_5 := hk3_5.up hup
    replace hk7 := hk7.up hup
    replace hk9 := hk9.up hup
    replace hk11 := hk11.up hup
    replace hk13 := hk13.up hup
    replace hk15 := hk15.up hup
    replace hk17 := hk17.up hup
    replace h3_4 := h3_4.up hup
    replace h3_5 := h3_5.up hup
    replace h_4 := h_4.up hup
    replace h_5 := h_5.up hup
    replace h_8 := h_8.up hup
    replace h_9 := h_9.up hup
    replace h_12 := h_12.up hup
    replace h_13 := h_13.up hup
    replace h_16 := h_16.up hup
    replace h_17 := h_17.up hup
    replace h_20 := h_20.up hup
    replace h_21 := h_21.up hup
    replace h_24 := h_24.up hup
    replace h_25 := h_25.up hup
    replace h_28 := h_28.up hup
    replace h_29 := h_29.up hup
    replace hupw := hupw.trans hup
    clear hup
    have hk19 : Bk wa30 (w27.heap.size) 29 #[.bool s_28, .slice A_28 n_28 c_28, .bool s_29, .slice A_29 n_29 c_29] := by
      have := (Bk.new w27 29 #[.bool s_28, .slice A_28 n_28 c_28, .bool s_29, .slice A_29 n_29 c_29])
      rw [hwa30]; simpa using this
    rw [← hwa30]
    clear hwa30
    refine (rdivRQ h3_4 h3_5).mono ?_
    rintro e w31 ⟨vf, rfl, hf, hup⟩
    replace hk3_4 := hk3_4.up hup
    replace hk3_5 := hk3_5.up hup
    replace hk7 := hk7.up hup
    replace hk9 := hk9.up hup
    replace hk11 := hk11.up hup
    replace hk13 := hk13.up hup
    replace hk15 := hk15.up hup
    replace hk17 := hk17.up hup
    replace hk19 := hk19.up hup
    replace h3_4 := h3_4.up hup
    replace h3_5 := h3_5.up hup
    replace h_4 := h_4.up hup
    replace h_5 := h_5.up hup
    replace h_8 := h_8.up hup
    replace h_9 := h_9.up hup
    replace h_12 := h_12.up hup
    replace h_13 := h_13.up hup
    replace h_16 := h_16.up hup
    replace h_17 := h_17.up hup
    replace h_20 := h_20.up hup
    replace h_21 := h_21.up hup
    replace h_24 := h_24.up hup
    replace h_25 := h_25.up hup
    replace h_28 := h_28.up hup
    replace h_29 := h_29.up hup
    replace hupw := hupw.trans hup
    clear hup
    obtain ⟨s_32, A_32, n_32, c_32, s_33, A_33, n_33, c_33, rfl, h_32, h_33⟩ := hf
    have hk3_4c0 := hk3_4.cell (i := 0) rfl
    have hk3_4c1 := hk3_4.cell (i := 1) rfl
    have hk3_4c2 := hk3_4.cell (i := 2) rfl
    have hk3_4c3 := hk3_4.cell (i := 3) rfl
    have hk3_4l := hk3_4.lt
    have hk3_5c0 := hk3_5.cell (i := 0) rfl
    have hk3_5c1 := hk3_5.cell (i := 1) rfl
    have hk3_5c2 := hk3_5.cell (i := 2) rfl
    have hk3_5c3 := hk3_5.cell (i := 3) rfl
    have hk3_5l := hk3_5.lt
    go_wp2_with fail
    clear hk3_4c0 hk3_4c1 hk3_4c2 hk3_4c3 hk3_4l hk3_5c0 hk3_5c1 hk3_5c2 hk3_5c3 hk3_5l
    obtain ⟨wa34, hwa34⟩ : ∃ x, x = (w31.alloc (.cells #[.bool s_32, .slice A_32 n_32 c_32, .bool s_33, .slice A_33 n_33 c_33] 29)) := ⟨_, rfl⟩
    have hup : Up w31 wa34 := by rw [hwa34]; exact ((Up.refl w31).alloc _)
    have howa34 : w27.heap.size < w31.heap.size := hk19.lt
    have hzwa34 : w.heap.size ≤ w31.heap.size := hupw.size
    replace hk3_4 := hk3_4.up hup
    replace hk3_5 := hk3_5.up hup
    replace hk7 := hk7.up hup
    replace hk9 := hk9.up hup
    replace hk11 := hk11.up hup
    replace hk13 := hk13.up hup
    replace hk15 := hk15.up hup
    replace hk17 := hk17.up hup
    replace hk19 := hk19.up hup
    replace h3_4 := h3_4.up hup
    replace h3_5 := h3_5.up hup
    replace h_4 := h_4.up hup
    replace h_5 := h_5.up hup
    replace h_8 := h_8.up hup
    replace h_9 := h_9.up hup
    replace h_12 := h_12.up hup
    replace h_13 := h_13.up hup
    replace h_16 := h_16.up hup
    replace h_17 := h_17.up hup
    replace h_20 := h_20.up hup
    replace h_21 := h_21.up hup
    replace h_24 := h_24.up hup
    replace h_25 := h_25.up hup
    replace h_28 := h_28.up hup
    replace h_29 := h_29.up hup
    replace h_32 := h_32.up hup
    replace h_33 := h_33.up hup
    replace hupw := hupw.trans hup
    clear hup
    have hk21 : Bk wa34 (w31.heap.size) 29 #[.bool s_32, .slice A_32 n_32 c_32, .bool s_33, .slice A_33 n_33 c_33] := by
      have := (Bk.new w31 29 #[.bool s_32, .slice A_32 n_32 c_32, .bool s_33, .slice A_33 n_33 c_33])
      rw [hwa34]; simpa using this
    rw [← hwa34]
    clear hwa34
    refine (cmpRQ h3_4 h3_5).mono ?_
    rintro e w35 ⟨rfl, hup⟩
    replace hk3_4 := hk3_4.up hup
    replace hk3_5 := hk3_5.up hup
    replace hk7 := hk7.up hup
    replace hk9 := hk9.up hup
    replace hk11 := hk11.up hup
    replace hk13 := hk13.up hup
    replace hk15 := hk15.up hup
    replace hk17 := hk17.up hup
    replace hk19 := hk19.up hup
    replace hk21 := hk21.up hup
    replace h3_4 := h3_4.up hup
    replace h3_5 := h3_5.up hup
    replace h_4 := h_4.up hup
    replace h_5 := h_5.up hup
    replace h_8 := h_8.up hup
    replace h_9 := h_9.up hup
    replace h_12 := h_12.up hup
    replace h_13 := h_13.up hup
    replace h_16 := h_16.up hup
    replace h_17 := h_17.up hup
    replace h_20 := h_20.up hup
    replace h_21 := h_21.up hup
    replace h_24 := h_24.up hup
    replace h_25 := h_25.up hup
    replace h_28 := h_28.up hup
    replace h_29 := h_29.up hup
    replace h_32 := h_32.up hup
    replace h_33 := h_33.up hup
    replace hupw := hupw.trans hup
    clear hup
    have hk3_4c0 := hk3_4.cell (i := 0) rfl
    have hk3_4c1 := hk3_4.cell (i := 1) rfl
    have hk3_4c2 := hk3_4.cell (i := 2) rfl
    have hk3_4c3 := hk3_4.cell (i := 3) rfl
    have hk3_4l := hk3_4.lt
    have hk3_5c0 := hk3_5.cell (i := 0) rfl
    have hk3_5c1 := hk3_5.cell (i := 1) rfl
    have hk3_5c2 := hk3_5.cell (i := 2) rfl
    have hk3_5c3 := hk3_5.cell (i := 3) rfl
    have hk3_5l := hk3_5.lt
    go_wp2_with fail
    clear hk3_4c0 hk3_4c1 hk3_4c2 hk3_4c3 hk3_4l hk3_5c0 hk3_5c1 hk3_5c2 hk3_5c3 hk3_5l
    refine (rcmpRQ h3_4 h3_5).mono ?_
    rintro e w36 ⟨rfl, hup⟩
    replace hk7 := hk7.up hup
    replace hk9 := hk9.up hup
    replace hk11 := hk11.up hup
    replace hk13 := hk13.up hup
    replace hk15 := hk15.up hup
    replace hk17 := hk17.up hup
    replace hk19 := hk19.up hup
    replace hk21 := hk21.up hup
    replace h_4 := h_4.up hup
    replace h_5 := h_5.up hup
    replace h_8 := h_8.up hup
    replace h_9 := h_9.up hup
    replace h_12 := h_12.up hup
    replace h_13 := h_13.up hup
    replace h_16 := h_16.up hup
    replace h_17 := h_17.up hup
    replace h_20 := h_20.up hup
    replace h_21 := h_21.up hup
    replace h_24 := h_24.up hup
    replace h_25 := h_25.up hup
    replace h_28 := h_28.up hup
    replace h_29 := h_29.up hup
    replace h_32 := h_32.up hup
    replace h_33 := h_33.up hup
    replace hupw := hupw.trans hup
    clear hup
    have hk7c0 := hk7.cell (i := 0) rfl
    have hk7c1 := hk7.cell (i := 1) rfl
    have hk7c2 := hk7.cell (i := 2) rfl
    have hk7c3 := hk7.cell (i := 3) rfl
    have hk7l := hk7.lt
    have hk9c0 := hk9.cell (i := 0) rfl
    have hk9c1 := hk9.cell (i := 1) rfl
    have hk9c2 := hk9.cell (i := 2) rfl
    have hk9c3 := hk9.cell (i := 3) rfl
    have hk9l := hk9.lt
    go_wp2_with fail
    clear hk7c0 hk7c1 hk7c2 hk7c3 hk7l hk9c0 hk9c1 hk9c2 hk9c3 hk9l
    refine (requalF _ _ _ (Fz.mk h_4 h_5) (Fz.mk h_8 h_9)).mono ?_
    rintro e w37 ⟨rfl, hup⟩
    replace hk11 := hk11.up hup
    replace hk13 := hk13.up hup
    replace hk15 := hk15.up hup
    replace hk17 := hk17.up hup
    replace hk19 := hk19.up hup
    replace hk21 := hk21.up hup
    replace h_12 := h_12.up hup
    replace h_13 := h_13.up hup
    replace h_16 := h_16.up hup
    replace h_17 := h_17.up hup
    replace h_20 := h_20.up hup
    replace h_21 := h_21.up hup
    replace h_24 := h_24.up hup
    replace h_25 := h_25.up hup
    replace h_28 := h_28.up hup
    replace h_29 := h_29.up hup
    replace h_32 := h_32.up hup
    replace h_33 := h_33.up hup
    replace hupw := hupw.trans hup
    clear hup
    have hk11c0 := hk11.cell (i := 0) rfl
    have hk11c1 := hk11.cell (i := 1) rfl
    have hk11c2 := hk11.cell (i := 2) rfl
    have hk11c3 := hk11.cell (i := 3) rfl
    have hk11l := hk11.lt
    have hk13c0 := hk13.cell (i := 0) rfl
    have hk13c1 := hk13.cell (i := 1) rfl
    have hk13c2 := hk13.cell (i := 2) rfl
    have hk13c3 := hk13.cell (i := 3) rfl
    have hk13l := hk13.lt
    go_wp2_with fail
    clear hk11c0 hk11c1 hk11c2 hk11c3 hk11l hk13c0 hk13c1 hk13c2 hk13c3 hk13l
    refine (requalF _ _ _ (Fz.mk h_12 h_13) (Fz.mk h_16 h_17)).mono ?_
    rintro e w38 ⟨rfl, hup⟩
    replace hk15 := hk15.up hup
    replace hk17 := hk17.up hup
    replace hk19 := hk19.up hup
    replace hk21 := hk21.up hup
    replace h_20 := h_20.up hup
    replace h_21 := h_21.up hup
    replace h_24 := h_24.up hup
    replace h_25 := h_25.up hup
    replace h_28 := h_28.up hup
    replace h_29 := h_29.up hup
    replace h_32 := h_32.up hup
    replace h_33 := h_33.up hup
    replace hupw := hupw.trans hup
    clear hup
    have hk15c0 := hk15.cell (i := 0) rfl
    have hk15c1 := hk15.cell (i := 1) rfl
    have hk15c2 := hk15.cell (i := 2) rfl
    have hk15c3 := hk15.cell (i := 3) rfl
    have hk15l := hk15.lt
    have hk17c0 := hk17.cell (i := 0) rfl
    have hk17c1 := hk17.cell (i := 1) rfl
    have hk17c2 := hk17.cell (i := 2) rfl
    have hk17c3 := hk17.cell (i := 3) rfl
    have hk17l := hk17.lt
    go_wp2_with fail
    clear hk15c0 hk15c1 hk15c2 hk15c3 hk15l hk17c0 hk17c1 hk17c2 hk17c3 hk17l
    refine (requalF _ _ _ (Fz.mk h_20 h_21) (Fz.mk h_24 h_25)).mono ?_
    rintro e w39 ⟨rfl, hup⟩
    replace hk19 := hk19.up hup
    replace hk21 := hk21.up hup
    replace h_28 := h_28.up hup
    replace h_29 := h_29.up hup
    replace h_32 := h_32.up hup
    replace h_33 := h_33.up hup
    replace hupw := hupw.trans hup
    clear hup
    have hk19c0 := hk19.cell (i := 0) rfl
    have hk19c1 := hk19.cell (i := 1) rfl
    have hk19c2 := hk19.cell (i := 2) rfl
    have hk19c3 := hk19.cell (i := 3) rfl
    have hk19l := hk19.lt
    have hk21c0 := hk21.cell (i := 0) rfl
    have hk21c1 := hk21.cell (i := 1) rfl
    have hk21c2 := hk21.cell (i := 2) rfl
    have hk21c3 := hk21.cell (i := 3) rfl
    have hk21l := hk21.lt
    go_wp2_with fail
    clear hk19c0 hk19c1 hk19c2 hk19c3 hk19l hk21c0 hk21c1 hk21c2 hk21c3 hk21l
    refine (requalF _ _ _ (Fz.mk h_28 h_29) (Fz.mk h_32 h_33)).mono ?_
    rintro e w40 ⟨rfl, hup⟩
    replace hupw := hupw.trans hup
    clear hup
    go_wp2_with fail
    go_ret
    exact ⟨rfl, hupw⟩
theorem arithW (v v' : Value) (w : World) (hp : Pow w) (h : Gz w v RawIn RawIn) (h' : Gz w v' RawIn RawIn) : Calls Tryz.prog 5 #[v, v'] w fun e w' => e = .returned (.bool true) ∧ Up w w' := by
  obtain ⟨a, h⟩ := Dz.of h
  obtain ⟨b, h'⟩ := Dz.of h'
  exact arithW_ v v' w h h' hp

end Go.Proofs.YtldifgfpecicnaaGreatDoor
