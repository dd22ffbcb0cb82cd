/- For every two drafts (asked up to 12 limbs, as the law does), Gcd returns the reference's greatest common divisor, it is valid, and it divides both. No condition. -/
import Derived.Test.YtbfbemgfdcehfaaInv2
import Derived.Test.YtbfbemgfdcehfaaH1
import Derived.Test.YtbfbemgfdcehfaaK4
import Derived.Test.YtbfbemgfdcehfaaC7
import Derived.Test.YtbfbemgfdcehfaaV2
namespace Go.Proofs.Ytbfbemgfdcehfaa
open Go.RowKit

open Go.ChangeShapes Go.WideShapes Go.ChangeAt

theorem rsignI (B : Nat) (v : Value) (x : Int) (w : World) (hv : IsInt B w v x) (hx : x.natAbs < top300) : Calls Try.prog 21 #[v] w fun e w' => e = .returned (.int .i64 x.sign) ∧ Up w w' := by
  obtain ⟨s, A, n, c, rfl, Hs, Hn, hl, hc, _⟩ := hv
  rw [← sgV_int Hs Hn]
  exact rsignV_any s A c n w (by rw [Hn.out]; have := len_of_top hx; omega)
theorem divI (v v' : Value) (x y : Int) (w : World) (hv : IsInt 0 w v x) (hv' : IsInt 0 w v' y) (hx : x.natAbs < top300) (hy : y.natAbs < top300) (hy0 : y ≠ 0) : Calls Try.prog 29 #[v, v'] w (RetInt2 w (x.tdiv y) (x.tmod y) 0) :=
  divI_any 0 0 v v' x y w hv hv' hx hy hy0 (fun _ => long_any)
theorem gcdD (v v' : Value) (x y d : Int) (w : World) (hv : IsInt 0 w v x) (hv' : IsInt 0 w v' y) (hx : x.natAbs < top300) (hy : y.natAbs < top300) (Hd : Hid (d = (Nat.gcd x.natAbs y.natAbs : Nat))) : Calls Try.prog 33 #[v, v'] w fun e w' => ∃ v, e = .returned (.tuple #[v, .int .i64 0]) ∧ IsInt w.heap.size w' v d ∧ Up w w' := by
  rw [Hd.out]; exact gcdI_any 0 0 v v' x y w hv hv' hx hy (.inl long_any)
theorem rgcdD (v v' : Value) (x y d : Int) (w : World) (hv : IsInt 0 w v x) (hv' : IsInt 0 w v' y) (hx : x.natAbs < top300) (hy : y.natAbs < top300) (Hd : Hid (d = (Nat.gcd x.natAbs y.natAbs : Nat))) : Calls Try.prog 34 #[v, v'] w (RetInt w d) := by
  rw [Hd.out]; exact rgcdI_any 0 0 v v' x y w hv hv' hx hy
theorem gcd_zero {x y d : Int} (Hd : Hid (d = (Nat.gcd x.natAbs y.natAbs : Nat))) (h : d = 0) : x = 0 ∧ y = 0 := by
  have h1 := Hd.out
  rw [h] at h1
  have h2 : Nat.gcd x.natAbs y.natAbs = 0 := by omega
  have h3 := Nat.gcd_eq_zero_iff.1 h2
  omega
theorem gcd_left {x y d : Int} (Hd : Hid (d = (Nat.gcd x.natAbs y.natAbs : Nat))) : x.tmod d = 0 := by
  rw [Hd.out]; exact Int.tmod_eq_zero_of_dvd (Int.natAbs_dvd_natAbs.1 (by rw [Int.natAbs_natCast]; exact Nat.gcd_dvd_left _ _))
theorem gcd_right {x y d : Int} (Hd : Hid (d = (Nat.gcd x.natAbs y.natAbs : Nat))) : y.tmod d = 0 := by
  rw [Hd.out]; exact Int.tmod_eq_zero_of_dvd (Int.natAbs_dvd_natAbs.1 (by rw [Int.natAbs_natCast]; exact Nat.gcd_dvd_right _ _))
theorem tdiv_top' {x y : Int} (hx : x.natAbs < top300) : (x.tdiv y).natAbs < top300 := by
  rw [Int.natAbs_tdiv]; exact Nat.lt_of_le_of_lt (Nat.div_le_self _ _) hx

set_option maxRecDepth 100000 in
set_option maxHeartbeats 16000000 in
theorem gcdW (v0 v1 : Value) (w : World) (h0 : RawIn w v0) (h1 : RawIn w v1) : Calls Try.prog 8 #[v0, v1] w fun e w' => e = .returned (.bool true) ∧ Up w w' := by
  have g0 := h0
  have g1 := h1
  obtain ⟨s, A, n, c, l, rfl, hl, hw, Hn, hn, hc⟩ := h0
  obtain ⟨t, C, m, d, k, rfl, hm, hw', Hm, hmm, hd⟩ := h1
  clear hl hw Hn hn hc hm hw' Hm hmm hd
  obtain ⟨w0, hw0⟩ : ∃ w0, w0 = ((w.alloc (.cells #[.bool s, .slice A n c] 37)).alloc (.cells #[.bool t, .slice C m d] 37)) := ⟨_, rfl⟩
  have hb1 : Bk w0 (w.heap.size) 37 #[.bool s, .slice A n c] := by
    have := (Bk.new w 37 #[.bool s, .slice A n c]).alloc (.cells #[.bool t, .slice C m d] 37)
    rw [hw0]; simpa using this
  have hb2 : Bk w0 (w.heap.size + 1) 37 #[.bool t, .slice C m d] := by
    have := Bk.new (w.alloc (.cells #[.bool s, .slice A n c] 37)) 37 #[.bool t, .slice C m d]
    rw [hw0]; simpa using this
  have hup0 : Up w w0 := by rw [hw0]; exact ((Up.refl w).alloc _).alloc _
  have hsz0 : w.heap.size + 2 ≤ w0.heap.size := by rw [hw0]; simp
  have Hw0 := hide hw0
  clear hw0
  have e1a := hb1.cell (i := 0) rfl
  have e1b := hb1.cell (i := 1) rfl
  have e2a := hb2.cell (i := 0) rfl
  have e2b := hb2.cell (i := 1) rfl
  have q0 := g0.up hup0
  have q1 := g1.up hup0
  go_enter Try.func8, Try.ntmps8
  go_wp2_with fail
  rw [← Hw0.out]
  have hupw := hup0
  refine region_inv (fun l a W => ∃ (b0 b1 b2 b3 b4 b5 b6 b7 : Bool) (x1_0 x1_1 x1_2 x1_3 x1_4 x1_5 : Value), l = #[b0, b1, b2, b3, b4, b5, b6, b7] ∧ a = { tmps := #[.agg #[.bool s, .slice A n c], .agg #[.bool t, .slice C m d], .pointer (some ⟨w.heap.size, 0, none⟩), .pointer (some ⟨w.heap.size + 1, 0, none⟩), .bool false, x1_4, x1_5, undef, undef, undef, undef, undef, undef, undef, undef, x1_0, x1_1, x1_2, x1_3, undef, undef, undef, undef, undef, undef, undef, undef, undef, undef, undef, undef, undef, undef, undef, undef, undef, undef, undef, undef, undef, undef, undef, undef, undef, undef, undef, undef, undef, undef, undef, undef, undef, undef, undef, undef, undef, undef, undef, undef, undef, undef, undef, undef, undef, undef, undef, undef, undef, undef, undef, undef, undef, undef, undef, undef, undef, undef, undef, undef, undef, undef, undef, undef, undef, undef, undef, undef, undef, undef, undef, undef, undef, undef, undef, undef, undef, undef, undef], defers := [] } ∧ Up w0 W ∧ (b0 = true → x1_0 = .agg #[.bool s, .slice A n c]) ∧ (b1 = true → Got W x1_1) ∧ (b2 = true → x1_2 = .agg #[.bool t, .slice C m d]) ∧ (b3 = true → Got W x1_3) ∧ (b4 = true → Box (w0.heap.size) W x1_4 b6 x1_1) ∧ (b5 = true → Box (w0.heap.size) W x1_5 b7 x1_3) ∧ (b6 = true → b4 = true ∧ b1 = true) ∧ (b7 = true → b5 = true ∧ b3 = true) ∧ (b4 = true → b5 = true → x1_4 ≠ x1_5)) (by kernel_rfl) (by kernel_rfl) ?hs ?h0 ?hstep ?hQ
  case hs => rintro l a W ⟨b0, b1, b2, b3, b4, b5, b6, b7, x1_0, x1_1, x1_2, x1_3, x1_4, x1_5, rfl, rfl, hup, hF0, hF1, hF2, hF3, hF4, hF5, hF6, hF7, hN4x5⟩; rfl
  case h0 => exact ⟨false, false, false, false, false, false, false, false, undef, undef, undef, undef, undef, undef, rfl, rfl, (Up.refl w0).drew, (fun h => by cases h), (fun h => by cases h), (fun h => by cases h), (fun h => by cases h), (fun h => by cases h), (fun h => by cases h), (fun h => by cases h), (fun h => by cases h), (fun h => by cases h)⟩
  case hstep =>
    rintro l a W ⟨b0, b1, b2, b3, b4, b5, b6, b7, x1_0, x1_1, x1_2, x1_3, x1_4, x1_5, rfl, rfl, hup, hF0, hF1, hF2, hF3, hF4, hF5, hF6, hF7, hN4x5⟩ i hi
    have hlt : i < 8 := ready_lt hi
    have HF0 := hide hF0
    have HF1 := hide hF1
    have HF2 := hide hF2
    have HF3 := hide hF3
    have HF4 := hide hF4
    have HF5 := hide hF5
    have HF6 := hide hF6
    have HF7 := hide hF7
    have HN4x5 := hide hN4x5
    clear hF0 hF1 hF2 hF3 hF4 hF5 hF6 hF7 hN4x5
    have hcase : i = 0 ∨ i = 1 ∨ i = 2 ∨ i = 3 ∨ i = 4 ∨ i = 5 ∨ i = 6 ∨ i = 7 := by omega
    clear hlt
    rcases hcase with rfl | rfl | rfl | rfl | rfl | rfl | rfl | rfl
    · skip
      have k1 : W.cell? ⟨w.heap.size, 0, none⟩ = some (.bool s) := hup.keep e1a
      have k2 : W.cell? ⟨w.heap.size, 1, none⟩ = some (.slice A n c) := hup.keep e1b
      clear hi
      refine wpOp_step rfl (fun K hK => ?_)
      go_simp
      refine hK _ _ ?_
      clear hK K
      exact ⟨true, b1, b2, b3, b4, b5, b6, b7, .agg #[.bool s, .slice A n c], x1_1, x1_2, x1_3, x1_4, x1_5, rfl, rfl, hup, (fun _ => rfl), HF1.out, HF2.out, HF3.out, HF4.out, HF5.out, HF6.out, HF7.out, HN4x5.out⟩
    · skip
      have hb : b0 = true := getB (l := [b0, b1, b2, b3, b4, b5, b6, b7]) (ready_dep hi rfl 0 (by kernel_rfl)) rfl
      have hx := HF0.out hb
      subst hx
      have hn := ready_not hi
      have hst6 : b6 = false := by
        cases e : b6 with
        | false => rfl
        | true => have h5 := (HF6.out e).2; rw [h5] at hn; cases hn
      have Hst6 := hide hst6
      clear hst6
      clear hn
      clear hi
      refine wpOp_step rfl (fun K hK => ?_)
      go_simp
      refine (madeR _ _ (q0.up hup)).mono ?_
      rintro e w1 ⟨v1, z1, rfl, hv1, hz1, hup1⟩
      go_wp2_with fail
      exact ⟨b0, true, b2, b3, b4, b5, b6, b7, .agg #[.bool s, .slice A n c], v1, x1_2, x1_3, x1_4, x1_5, rfl, rfl, hup.trans hup1, (fun _ => rfl), (fun _ => ⟨z1, hv1.mono (Nat.zero_le _), hz1⟩), HF2.out, (fun h => (HF3.out h).up hup1), (fun h => by rw [Hst6.out] at *; obtain ⟨g, s, A, n, c, h1, h2, h3, _⟩ := HF4.out h; exact ⟨g, s, A, n, c, h1, h2, h3.up hup1, fun h => by cases h⟩), (fun h => (HF5.out h).up hup1), (fun h => ⟨(HF6.out h).1, rfl⟩), HF7.out, HN4x5.out⟩
    · skip
      have k1 : W.cell? ⟨w.heap.size + 1, 0, none⟩ = some (.bool t) := hup.keep e2a
      have k2 : W.cell? ⟨w.heap.size + 1, 1, none⟩ = some (.slice C m d) := hup.keep e2b
      clear hi
      refine wpOp_step rfl (fun K hK => ?_)
      go_simp
      refine hK _ _ ?_
      clear hK K
      exact ⟨b0, b1, true, b3, b4, b5, b6, b7, x1_0, x1_1, .agg #[.bool t, .slice C m d], x1_3, x1_4, x1_5, rfl, rfl, hup, HF0.out, HF1.out, (fun _ => rfl), HF3.out, HF4.out, HF5.out, HF6.out, HF7.out, HN4x5.out⟩
    · skip
      have hb : b2 = true := getB (l := [b0, b1, b2, b3, b4, b5, b6, b7]) (ready_dep hi rfl 2 (by kernel_rfl)) rfl
      have hx := HF2.out hb
      subst hx
      have hn := ready_not hi
      have hst7 : b7 = false := by
        cases e : b7 with
        | false => rfl
        | true => have h5 := (HF7.out e).2; rw [h5] at hn; cases hn
      have Hst7 := hide hst7
      clear hst7
      clear hn
      clear hi
      refine wpOp_step rfl (fun K hK => ?_)
      go_simp
      refine (madeR _ _ (q1.up hup)).mono ?_
      rintro e w1 ⟨v1, z1, rfl, hv1, hz1, hup1⟩
      go_wp2_with fail
      exact ⟨b0, b1, b2, true, b4, b5, b6, b7, x1_0, x1_1, .agg #[.bool t, .slice C m d], v1, x1_4, x1_5, rfl, rfl, hup.trans hup1, HF0.out, (fun h => (HF1.out h).up hup1), (fun _ => rfl), (fun _ => ⟨z1, hv1.mono (Nat.zero_le _), hz1⟩), (fun h => (HF4.out h).up hup1), (fun h => by rw [Hst7.out] at *; obtain ⟨g, s, A, n, c, h1, h2, h3, _⟩ := HF5.out h; exact ⟨g, s, A, n, c, h1, h2, h3.up hup1, fun h => by cases h⟩), HF6.out, (fun h => ⟨(HF7.out h).1, rfl⟩), HN4x5.out⟩
    · skip
      have hn := ready_not hi
      have hst6 : b6 = false := by
        cases e : b6 with
        | false => rfl
        | true => have h5 := (HF6.out e).1; rw [h5] at hn; cases hn
      have Hst6 := hide hst6
      clear hst6
      clear hn
      clear hi
      have hsz := hup.size
      have hupA := (Up.refl W).alloc (.cells #[.bool false, .slice none 0 0] 24)
      refine wpOp_step rfl (fun K hK => ?_)
      go_simp
      refine hK _ _ ?_
      clear hK K
      exact ⟨b0, b1, b2, b3, true, b5, b6, b7, x1_0, x1_1, x1_2, x1_3, .pointer (some ⟨W.heap.size, 0, none⟩), x1_5, rfl, rfl, hup.trans hupA, HF0.out, (fun h => (HF1.out h).up hupA), HF2.out, (fun h => (HF3.out h).up hupA), (fun _ => by rw [Hst6.out]; exact Box.new _ W _ hsz), (fun h => (HF5.out h).up hupA), (fun h => ⟨rfl, (HF6.out h).2⟩), HF7.out, (fun _ h => (HF5.out h).ne_new.symm)⟩
    · skip
      have hn := ready_not hi
      have hst7 : b7 = false := by
        cases e : b7 with
        | false => rfl
        | true => have h5 := (HF7.out e).1; rw [h5] at hn; cases hn
      have Hst7 := hide hst7
      clear hst7
      clear hn
      clear hi
      have hsz := hup.size
      have hupA := (Up.refl W).alloc (.cells #[.bool false, .slice none 0 0] 24)
      refine wpOp_step rfl (fun K hK => ?_)
      go_simp
      refine hK _ _ ?_
      clear hK K
      exact ⟨b0, b1, b2, b3, b4, true, b6, b7, x1_0, x1_1, x1_2, x1_3, x1_4, .pointer (some ⟨W.heap.size, 0, none⟩), rfl, rfl, hup.trans hupA, HF0.out, (fun h => (HF1.out h).up hupA), HF2.out, (fun h => (HF3.out h).up hupA), (fun h => (HF4.out h).up hupA), (fun _ => by rw [Hst7.out]; exact Box.new _ W _ hsz), HF6.out, (fun h => ⟨rfl, (HF7.out h).2⟩), (fun h _ => (HF4.out h).ne_new)⟩
    · skip
      have hb2 : b4 = true := getB (l := [b0, b1, b2, b3, b4, b5, b6, b7]) (ready_dep hi rfl 4 (by kernel_rfl)) rfl
      have hb1 : b1 = true := getB (l := [b0, b1, b2, b3, b4, b5, b6, b7]) (ready_dep hi rfl 1 (by kernel_rfl)) rfl
      clear hi
      obtain ⟨s9, A9, n9, c9, hxc⟩ := (HF1.out hb1).agg
      subst hxc
      obtain ⟨g, s8, A8, n8, c8, hxb, hgB, hbk, _⟩ := HF4.out hb2
      subst hxb
      have f1 := hbk.cell (i := 0) rfl
      have f2 := hbk.cell (i := 1) rfl
      have f3 := hbk.frozen 0
      have f4 := hbk.frozen 1
      have Hb1 := hide hb1
      have Hb2 := hide hb2
      have hsz := hup.size
      clear hb1 hb2
      refine wpOp_step rfl (fun K hK => ?_)
      go_simp
      refine hK _ _ ?_
      clear hK K
      exact ⟨b0, b1, b2, b3, b4, b5, true, b7, x1_0, .agg #[.bool s9, .slice A9 n9 c9], x1_2, x1_3, .pointer (some ⟨g, 0, none⟩), x1_5, rfl, rfl, hup.two (g := g) hgB _ _, HF0.out, (fun h => (HF1.out h).boxed hbk _ _), HF2.out, (fun h => (HF3.out h).boxed hbk _ _), (fun _ => hbk.fill hgB), (fun h => (HF5.out h).far ((HN4x5.out Hb2.out h).symm) _ _), (fun _ => ⟨Hb2.out, Hb1.out⟩), HF7.out, HN4x5.out⟩
    · skip
      have hb2 : b5 = true := getB (l := [b0, b1, b2, b3, b4, b5, b6, b7]) (ready_dep hi rfl 5 (by kernel_rfl)) rfl
      have hb1 : b3 = true := getB (l := [b0, b1, b2, b3, b4, b5, b6, b7]) (ready_dep hi rfl 3 (by kernel_rfl)) rfl
      clear hi
      obtain ⟨s9, A9, n9, c9, hxc⟩ := (HF3.out hb1).agg
      subst hxc
      obtain ⟨g, s8, A8, n8, c8, hxb, hgB, hbk, _⟩ := HF5.out hb2
      subst hxb
      have f1 := hbk.cell (i := 0) rfl
      have f2 := hbk.cell (i := 1) rfl
      have f3 := hbk.frozen 0
      have f4 := hbk.frozen 1
      have Hb1 := hide hb1
      have Hb2 := hide hb2
      have hsz := hup.size
      clear hb1 hb2
      refine wpOp_step rfl (fun K hK => ?_)
      go_simp
      refine hK _ _ ?_
      clear hK K
      exact ⟨b0, b1, b2, b3, b4, b5, b6, true, x1_0, x1_1, x1_2, .agg #[.bool s9, .slice A9 n9 c9], x1_4, .pointer (some ⟨g, 0, none⟩), rfl, rfl, hup.two (g := g) hgB _ _, HF0.out, (fun h => (HF1.out h).boxed hbk _ _), HF2.out, (fun h => (HF3.out h).boxed hbk _ _), (fun h => (HF4.out h).far (HN4x5.out h Hb2.out) _ _), (fun _ => hbk.fill hgB), HF6.out, (fun _ => ⟨Hb2.out, Hb1.out⟩), HN4x5.out⟩
  case hQ =>
    rintro l a W1_ ⟨b0, b1, b2, b3, b4, b5, b6, b7, x1_0, x1_1, x1_2, x1_3, x1_4, x1_5, rfl, rfl, hup, hF0, hF1, hF2, hF3, hF4, hF5, hF6, hF7, hN4x5⟩ hall
    have hb0 : b0 = true := getB (l := [b0, b1, b2, b3, b4, b5, b6, b7]) (hall 0 (by decide)) rfl
    have hb1 : b1 = true := getB (l := [b0, b1, b2, b3, b4, b5, b6, b7]) (hall 1 (by decide)) rfl
    have hb2 : b2 = true := getB (l := [b0, b1, b2, b3, b4, b5, b6, b7]) (hall 2 (by decide)) rfl
    have hb3 : b3 = true := getB (l := [b0, b1, b2, b3, b4, b5, b6, b7]) (hall 3 (by decide)) rfl
    have hb4 : b4 = true := getB (l := [b0, b1, b2, b3, b4, b5, b6, b7]) (hall 4 (by decide)) rfl
    have hb5 : b5 = true := getB (l := [b0, b1, b2, b3, b4, b5, b6, b7]) (hall 5 (by decide)) rfl
    have hb6 : b6 = true := getB (l := [b0, b1, b2, b3, b4, b5, b6, b7]) (hall 6 (by decide)) rfl
    have hb7 : b7 = true := getB (l := [b0, b1, b2, b3, b4, b5, b6, b7]) (hall 7 (by decide)) rfl
    subst hb0 hb1 hb2 hb3 hb4 hb5 hb6 hb7
    clear hall
    have m0 := hF0 rfl
    have m1 := hF1 rfl
    have m2 := hF2 rfl
    have m3 := hF3 rfl
    have m4 := hF4 rfl
    have m5 := hF5 rfl
    clear hF0 hF1 hF2 hF3 hF4 hF5 hF6 hF7 hN4x5
    obtain ⟨ga, sa, Aa, na, ca, rfl, hga, hka, hea⟩ := m4
    obtain rfl := hea rfl
    clear hea hga
    obtain ⟨x, hia, hta⟩ := m1
    obtain ⟨gb, sb, Ab, nb, cb, rfl, hgb, hkb, heb⟩ := m5
    obtain rfl := heb rfl
    clear heb hgb
    obtain ⟨y, hib, htb⟩ := m3
    obtain rfl := m0
    obtain rfl := m2
    have hupw := hupw.trans hup
    clear hup
    have hkaa := hka.cell (i := 0) rfl
    have hkab := hka.cell (i := 1) rfl
    have hkal := hka.lt
    have hkba := hkb.cell (i := 0) rfl
    have hkbb := hkb.cell (i := 1) rfl
    have hkbl := hkb.lt
    go_wp2_with fail
    clear hkaa hkab hkal hkba hkbb hkbl
    clear q0 q1 g0 g1 hb1 hb2 e1a e1b e2a e2b Hw0
    by_cases hn1 : na ≤ 12
    · skip
      have hn1I : decide ((na : Int) ≤ 12) = true := by simp; omega
      clear hn1
      refine (awake_any _).mono ?_
      rintro e w2_ ⟨rfl, hup⟩
      have hka := hka.up hup
      have hkb := hkb.up hup
      have hia := hia.up hup
      have hib := hib.up hup
      have hupw := hupw.trans hup
      clear hup
      have hkaa := hka.cell (i := 0) rfl
      have hkab := hka.cell (i := 1) rfl
      have hkal := hka.lt
      have hkba := hkb.cell (i := 0) rfl
      have hkbb := hkb.cell (i := 1) rfl
      have hkbl := hkb.lt
      go_wp2_with fail
      clear hkaa hkab hkal hkba hkbb hkbl
      by_cases hn2 : nb ≤ 12
      · skip
        have hn2I : decide ((nb : Int) ≤ 12) = true := by simp; omega
        clear hn2
        refine (few_any sa Aa ca na 12 _).mono ?_
        rintro e w3_ ⟨rfl, hup⟩
        have hka := hka.up hup
        have hkb := hkb.up hup
        have hia := hia.up hup
        have hib := hib.up hup
        have hupw := hupw.trans hup
        clear hup
        have hkaa := hka.cell (i := 0) rfl
        have hkab := hka.cell (i := 1) rfl
        have hkal := hka.lt
        have hkba := hkb.cell (i := 0) rfl
        have hkbb := hkb.cell (i := 1) rfl
        have hkbl := hkb.lt
        go_wp2_with fail
        clear hkaa hkab hkal hkba hkbb hkbl
        refine (few_any sb Ab cb nb 12 _).mono ?_
        rintro e w4_ ⟨rfl, hup⟩
        have hka := hka.up hup
        have hkb := hkb.up hup
        have hia := hia.up hup
        have hib := hib.up hup
        have hupw := hupw.trans hup
        clear hup
        have hkaa := hka.cell (i := 0) rfl
        have hkab := hka.cell (i := 1) rfl
        have hkal := hka.lt
        have hkba := hkb.cell (i := 0) rfl
        have hkbb := hkb.cell (i := 1) rfl
        have hkbl := hkb.lt
        go_wp2_with fail
        clear hkaa hkab hkal hkba hkbb hkbl
        clear hn1I hn2I
        obtain ⟨gd, Hd⟩ : ∃ gd : Int, Hid (gd = (Nat.gcd x.natAbs y.natAbs : Nat)) := ⟨_, rfl⟩
        have htd : gd.natAbs < top300 := by rw [Hd.out, Int.natAbs_natCast]; exact gcd_top hta htb
        refine region_inv (fun l a W => ∃ (b0 b1 b2 b3 b4 b5 b6 b7 b8 b9 b10 : Bool) (x5_0 x5_1 x5_2 x5_3 x5_4 x5_5 x5_6 x5_7 x5_8 x5_10 : Value), l = #[b0, b1, b2, b3, b4, b5, b6, b7, b8, b9, b10] ∧ a = { tmps := #[.agg #[.bool s, .slice A n c], .agg #[.bool t, .slice C m d], .pointer (some ⟨w.heap.size, 0, none⟩), .pointer (some ⟨w.heap.size + 1, 0, none⟩), .bool false, .pointer (some ⟨ga, 0, none⟩), .pointer (some ⟨gb, 0, none⟩), x5_8, x5_10, undef, undef, undef, undef, undef, undef, .agg #[.bool s, .slice A n c], .agg #[.bool sa, .slice Aa na ca], .agg #[.bool t, .slice C m d], .agg #[.bool sb, .slice Ab nb cb], .bool true, .bool false, .bool false, .agg #[.bool sa, .slice Aa na ca], .bool true, .bool false, .bool false, .bool false, .agg #[.bool sb, .slice Ab nb cb], .bool true, .bool false, .bool false, undef, x5_5, x5_0, x5_1, x5_2, x5_3, x5_4, x5_6, x5_7, undef, undef, undef, undef, undef, undef, undef, undef, undef, undef, undef, undef, undef, undef, undef, undef, undef, undef, undef, undef, undef, undef, undef, undef, undef, undef, undef, undef, undef, undef, undef, undef, undef, undef, undef, undef, undef, undef, undef, undef, undef, undef, undef, undef, undef, undef, undef, undef, undef, undef, undef, undef, undef, undef, undef, undef, undef, undef], defers := [] } ∧ Up w4_ W ∧ (b0 = true → IsInt 0 W x5_0 (x)) ∧ (b1 = true → IsInt 0 W x5_1 (x)) ∧ (b2 = true → IsInt 0 W x5_2 (y)) ∧ (b3 = true → IsInt 0 W x5_3 (y)) ∧ (b4 = true → ∃ v0 : Value, x5_4 = .tuple #[v0, .int .i64 0] ∧ IsInt 0 W v0 (gd)) ∧ (b5 = true → ∃ v0 : Value, x5_5 = .tuple #[v0, .int .i64 0] ∧ IsInt 0 W v0 (gd)) ∧ (b6 = true → IsInt 0 W x5_6 (gd)) ∧ (b7 = true → x5_7 = .int .i64 0) ∧ (b8 = true → Box (w4_.heap.size) W x5_8 b9 x5_6) ∧ (b9 = true → b8 = true ∧ b6 = true) ∧ (b10 = true → x5_10 = .int .i64 0)) (by kernel_rfl) (by kernel_rfl) ?hs ?h0 ?hstep ?hQ
        case hs => rintro l a W ⟨b0, b1, b2, b3, b4, b5, b6, b7, b8, b9, b10, x5_0, x5_1, x5_2, x5_3, x5_4, x5_5, x5_6, x5_7, x5_8, x5_10, rfl, rfl, hup, hF0, hF1, hF2, hF3, hF4, hF5, hF6, hF7, hF8, hF9, hF10⟩; rfl
        case h0 => exact ⟨false, false, false, false, false, false, false, false, false, false, false, undef, undef, undef, undef, undef, undef, undef, undef, undef, undef, rfl, rfl, (Up.refl w4_).drew, (fun h => by cases h), (fun h => by cases h), (fun h => by cases h), (fun h => by cases h), (fun h => by cases h), (fun h => by cases h), (fun h => by cases h), (fun h => by cases h), (fun h => by cases h), (fun h => by cases h), (fun h => by cases h)⟩
        case hstep =>
          rintro l a W ⟨b0, b1, b2, b3, b4, b5, b6, b7, b8, b9, b10, x5_0, x5_1, x5_2, x5_3, x5_4, x5_5, x5_6, x5_7, x5_8, x5_10, rfl, rfl, hup, hF0, hF1, hF2, hF3, hF4, hF5, hF6, hF7, hF8, hF9, hF10⟩ i hi
          have hlt : i < 11 := ready_lt hi
          have HF0 := hide hF0
          have HF1 := hide hF1
          have HF2 := hide hF2
          have HF3 := hide hF3
          have HF4 := hide hF4
          have HF5 := hide hF5
          have HF6 := hide hF6
          have HF7 := hide hF7
          have HF8 := hide hF8
          have HF9 := hide hF9
          have HF10 := hide hF10
          clear hF0 hF1 hF2 hF3 hF4 hF5 hF6 hF7 hF8 hF9 hF10
          have hcase : i = 0 ∨ i = 1 ∨ i = 2 ∨ i = 3 ∨ i = 4 ∨ i = 5 ∨ i = 6 ∨ i = 7 ∨ i = 8 ∨ i = 9 ∨ i = 10 := by omega
          clear hlt
          rcases hcase with rfl | rfl | rfl | rfl | rfl | rfl | rfl | rfl | rfl | rfl | rfl
          · skip
            have k0 := hka.up hup
            have k1 := k0.cell (i := 0) rfl
            have k2 := k0.cell (i := 1) rfl
            clear hi
            refine wpOp_step rfl (fun K hK => ?_)
            go_simp
            refine hK _ _ ?_
            clear hK K
            exact ⟨true, b1, b2, b3, b4, b5, b6, b7, b8, b9, b10, .agg #[.bool sa, .slice Aa na ca], x5_1, x5_2, x5_3, x5_4, x5_5, x5_6, x5_7, x5_8, x5_10, rfl, rfl, hup, (fun _ => hia.up hup), HF1.out, HF2.out, HF3.out, HF4.out, HF5.out, HF6.out, HF7.out, HF8.out, HF9.out, HF10.out⟩
          · skip
            have hb : b0 = true := getB (l := [b0, b1, b2, b3, b4, b5, b6, b7, b8, b9, b10]) (ready_dep hi rfl 0 (by kernel_rfl)) rfl
            have hx := hide (HF0.out hb)
            clear hb
            clear hi
            refine wpOp_step rfl (fun K hK => ?_)
            go_simp
            refine (ownI 0 _ _ _ hx.out (by assumption)).mono ?_
            rintro e w1 ⟨v1, rfl, hv1, hup1⟩
            go_wp2_with fail
            exact ⟨b0, true, b2, b3, b4, b5, b6, b7, b8, b9, b10, x5_0, v1, x5_2, x5_3, x5_4, x5_5, x5_6, x5_7, x5_8, x5_10, rfl, rfl, hup.trans hup1, (fun h => (HF0.out h).up hup1), (fun _ => hv1.mono (Nat.zero_le _)), (fun h => (HF2.out h).up hup1), (fun h => (HF3.out h).up hup1), (fun h => by obtain ⟨q0, rq, r0⟩ := HF4.out h; exact ⟨q0, rq, r0.up hup1⟩), (fun h => by obtain ⟨q0, rq, r0⟩ := HF5.out h; exact ⟨q0, rq, r0.up hup1⟩), (fun h => (HF6.out h).up hup1), HF7.out, (fun h => (HF8.out h).up hup1), HF9.out, HF10.out⟩
          · skip
            have k0 := hkb.up hup
            have k1 := k0.cell (i := 0) rfl
            have k2 := k0.cell (i := 1) rfl
            clear hi
            refine wpOp_step rfl (fun K hK => ?_)
            go_simp
            refine hK _ _ ?_
            clear hK K
            exact ⟨b0, b1, true, b3, b4, b5, b6, b7, b8, b9, b10, x5_0, x5_1, .agg #[.bool sb, .slice Ab nb cb], x5_3, x5_4, x5_5, x5_6, x5_7, x5_8, x5_10, rfl, rfl, hup, HF0.out, HF1.out, (fun _ => hib.up hup), HF3.out, HF4.out, HF5.out, HF6.out, HF7.out, HF8.out, HF9.out, HF10.out⟩
          · skip
            have hb : b2 = true := getB (l := [b0, b1, b2, b3, b4, b5, b6, b7, b8, b9, b10]) (ready_dep hi rfl 2 (by kernel_rfl)) rfl
            have hx := hide (HF2.out hb)
            clear hb
            clear hi
            refine wpOp_step rfl (fun K hK => ?_)
            go_simp
            refine (ownI 0 _ _ _ hx.out (by assumption)).mono ?_
            rintro e w1 ⟨v1, rfl, hv1, hup1⟩
            go_wp2_with fail
            exact ⟨b0, b1, b2, true, b4, b5, b6, b7, b8, b9, b10, x5_0, x5_1, x5_2, v1, x5_4, x5_5, x5_6, x5_7, x5_8, x5_10, rfl, rfl, hup.trans hup1, (fun h => (HF0.out h).up hup1), (fun h => (HF1.out h).up hup1), (fun h => (HF2.out h).up hup1), (fun _ => hv1.mono (Nat.zero_le _)), (fun h => by obtain ⟨q0, rq, r0⟩ := HF4.out h; exact ⟨q0, rq, r0.up hup1⟩), (fun h => by obtain ⟨q0, rq, r0⟩ := HF5.out h; exact ⟨q0, rq, r0.up hup1⟩), (fun h => (HF6.out h).up hup1), HF7.out, (fun h => (HF8.out h).up hup1), HF9.out, HF10.out⟩
          · skip
            have hb0q : b1 = true := getB (l := [b0, b1, b2, b3, b4, b5, b6, b7, b8, b9, b10]) (ready_dep hi rfl 1 (by kernel_rfl)) rfl
            have hx0 := hide (HF1.out hb0q)
            clear hb0q
            have hb1q : b3 = true := getB (l := [b0, b1, b2, b3, b4, b5, b6, b7, b8, b9, b10]) (ready_dep hi rfl 3 (by kernel_rfl)) rfl
            have hx1 := hide (HF3.out hb1q)
            clear hb1q
            clear hi
            refine wpOp_step rfl (fun K hK => ?_)
            go_simp
            refine (gcdD _ _ x y gd _ hx0.out hx1.out hta htb Hd).mono ?_
            rintro e w1 ⟨v0, rfl, hv0, hup1⟩
            go_wp2_with fail
            exact ⟨b0, b1, b2, b3, true, b5, b6, b7, b8, b9, b10, x5_0, x5_1, x5_2, x5_3, .tuple #[v0, .int .i64 0], x5_5, x5_6, x5_7, x5_8, x5_10, rfl, rfl, hup.trans hup1, (fun h => (HF0.out h).up hup1), (fun h => (HF1.out h).up hup1), (fun h => (HF2.out h).up hup1), (fun h => (HF3.out h).up hup1), (fun _ => ⟨v0, rfl, hv0.mono (Nat.zero_le _)⟩), (fun h => by obtain ⟨q0, rq, r0⟩ := HF5.out h; exact ⟨q0, rq, r0.up hup1⟩), (fun h => (HF6.out h).up hup1), HF7.out, (fun h => (HF8.out h).up hup1), HF9.out, HF10.out⟩
          · skip
            have hb : b4 = true := getB (l := [b0, b1, b2, b3, b4, b5, b6, b7, b8, b9, b10]) (ready_dep hi rfl 4 (by kernel_rfl)) rfl
            have hx := hide (HF4.out hb)
            clear hb
            clear hi
            refine wpOp_step rfl (fun K hK => ?_)
            go_simp
            refine hK _ _ ?_
            clear hK K
            exact ⟨b0, b1, b2, b3, b4, true, b6, b7, b8, b9, b10, x5_0, x5_1, x5_2, x5_3, x5_4, x5_4, x5_6, x5_7, x5_8, x5_10, rfl, rfl, hup, HF0.out, HF1.out, HF2.out, HF3.out, HF4.out, (fun _ => hx.out), HF6.out, HF7.out, HF8.out, HF9.out, HF10.out⟩
          · skip
            have hb : b5 = true := getB (l := [b0, b1, b2, b3, b4, b5, b6, b7, b8, b9, b10]) (ready_dep hi rfl 5 (by kernel_rfl)) rfl
            have Hb := hide hb
            obtain ⟨v0, hxe, hv0⟩ := HF5.out hb
            clear hb
            subst hxe
            have hn := ready_not hi
            have hst9 : b9 = false := by
              cases e : b9 with
              | false => rfl
              | true => have h5 := (HF9.out e).2; rw [h5] at hn; cases hn
            have Hst9 := hide hst9
            clear hst9
            clear hn
            clear hi
            refine wpOp_step rfl (fun K hK => ?_)
            go_simp
            refine hK _ _ ?_
            clear hK K
            exact ⟨b0, b1, b2, b3, b4, b5, true, b7, b8, b9, b10, x5_0, x5_1, x5_2, x5_3, x5_4, .tuple #[v0, .int .i64 0], v0, x5_7, x5_8, x5_10, rfl, rfl, hup, HF0.out, HF1.out, HF2.out, HF3.out, HF4.out, HF5.out, (fun _ => hv0), HF7.out, (fun h => by rw [Hst9.out] at *; obtain ⟨g, s, A, n, c, h1, h2, h3, _⟩ := HF8.out h; exact ⟨g, s, A, n, c, h1, h2, h3.up (Up.refl _), fun h => by cases h⟩), (fun h => ⟨(HF9.out h).1, rfl⟩), HF10.out⟩
          · skip
            have hb : b5 = true := getB (l := [b0, b1, b2, b3, b4, b5, b6, b7, b8, b9, b10]) (ready_dep hi rfl 5 (by kernel_rfl)) rfl
            have Hb := hide hb
            obtain ⟨v0, hxe, hv0⟩ := HF5.out hb
            clear hb
            subst hxe
            clear hi
            refine wpOp_step rfl (fun K hK => ?_)
            go_simp
            refine hK _ _ ?_
            clear hK K
            exact ⟨b0, b1, b2, b3, b4, b5, b6, true, b8, b9, b10, x5_0, x5_1, x5_2, x5_3, x5_4, .tuple #[v0, .int .i64 0], x5_6, .int .i64 0, x5_8, x5_10, rfl, rfl, hup, HF0.out, HF1.out, HF2.out, HF3.out, HF4.out, HF5.out, HF6.out, (fun _ => rfl), HF8.out, HF9.out, HF10.out⟩
          · skip
            have hn := ready_not hi
            have hst9 : b9 = false := by
              cases e : b9 with
              | false => rfl
              | true => have h5 := (HF9.out e).1; rw [h5] at hn; cases hn
            have Hst9 := hide hst9
            clear hst9
            clear hn
            clear hi
            have hsz := hup.size
            have hupA := (Up.refl W).alloc (.cells #[.bool false, .slice none 0 0] 24)
            refine wpOp_step rfl (fun K hK => ?_)
            go_simp
            refine hK _ _ ?_
            clear hK K
            exact ⟨b0, b1, b2, b3, b4, b5, b6, b7, true, b9, b10, x5_0, x5_1, x5_2, x5_3, x5_4, x5_5, x5_6, x5_7, .pointer (some ⟨W.heap.size, 0, none⟩), x5_10, rfl, rfl, hup.trans hupA, (fun h => (HF0.out h).up hupA), (fun h => (HF1.out h).up hupA), (fun h => (HF2.out h).up hupA), (fun h => (HF3.out h).up hupA), (fun h => by obtain ⟨q0, rq, r0⟩ := HF4.out h; exact ⟨q0, rq, r0.up hupA⟩), (fun h => by obtain ⟨q0, rq, r0⟩ := HF5.out h; exact ⟨q0, rq, r0.up hupA⟩), (fun h => (HF6.out h).up hupA), HF7.out, (fun _ => by rw [Hst9.out]; exact Box.new _ W _ hsz), (fun h => ⟨rfl, (HF9.out h).2⟩), HF10.out⟩
          · skip
            have hb2 : b8 = true := getB (l := [b0, b1, b2, b3, b4, b5, b6, b7, b8, b9, b10]) (ready_dep hi rfl 8 (by kernel_rfl)) rfl
            have hb1 : b6 = true := getB (l := [b0, b1, b2, b3, b4, b5, b6, b7, b8, b9, b10]) (ready_dep hi rfl 6 (by kernel_rfl)) rfl
            clear hi
            obtain ⟨s9, A9, n9, c9, hxc⟩ := (HF6.out hb1).agg
            subst hxc
            obtain ⟨g, s8, A8, n8, c8, hxb, hgB, hbk, _⟩ := HF8.out hb2
            subst hxb
            have f1 := hbk.cell (i := 0) rfl
            have f2 := hbk.cell (i := 1) rfl
            have f3 := hbk.frozen 0
            have f4 := hbk.frozen 1
            have Hb1 := hide hb1
            have Hb2 := hide hb2
            have hsz := hup.size
            clear hb1 hb2
            refine wpOp_step rfl (fun K hK => ?_)
            go_simp
            refine hK _ _ ?_
            clear hK K
            exact ⟨b0, b1, b2, b3, b4, b5, b6, b7, b8, true, b10, x5_0, x5_1, x5_2, x5_3, x5_4, x5_5, .agg #[.bool s9, .slice A9 n9 c9], x5_7, .pointer (some ⟨g, 0, none⟩), x5_10, rfl, rfl, hup.two (g := g) hgB _ _, (fun h => (HF0.out h).boxed hbk _ _), (fun h => (HF1.out h).boxed hbk _ _), (fun h => (HF2.out h).boxed hbk _ _), (fun h => (HF3.out h).boxed hbk _ _), (fun h => by obtain ⟨q0, rq, r0⟩ := HF4.out h; exact ⟨q0, rq, r0.boxed hbk _ _⟩), (fun h => by obtain ⟨q0, rq, r0⟩ := HF5.out h; exact ⟨q0, rq, r0.boxed hbk _ _⟩), (fun h => (HF6.out h).boxed hbk _ _), HF7.out, (fun _ => hbk.fill hgB), (fun _ => ⟨Hb2.out, Hb1.out⟩), HF10.out⟩
          · skip
            have hb : b7 = true := getB (l := [b0, b1, b2, b3, b4, b5, b6, b7, b8, b9, b10]) (ready_dep hi rfl 7 (by kernel_rfl)) rfl
            have hx := hide (HF7.out hb)
            clear hb
            clear hi
            refine wpOp_step rfl (fun K hK => ?_)
            go_simp
            refine hK _ _ ?_
            clear hK K
            exact ⟨b0, b1, b2, b3, b4, b5, b6, b7, b8, b9, true, x5_0, x5_1, x5_2, x5_3, x5_4, x5_5, x5_6, x5_7, x5_8, x5_7, rfl, rfl, hup, HF0.out, HF1.out, HF2.out, HF3.out, HF4.out, HF5.out, HF6.out, HF7.out, HF8.out, HF9.out, (fun _ => hx.out)⟩
        case hQ =>
          rintro l a W5_ ⟨b0, b1, b2, b3, b4, b5, b6, b7, b8, b9, b10, x5_0, x5_1, x5_2, x5_3, x5_4, x5_5, x5_6, x5_7, x5_8, x5_10, rfl, rfl, hup, hF0, hF1, hF2, hF3, hF4, hF5, hF6, hF7, hF8, hF9, hF10⟩ hall
          have hb0 : b0 = true := getB (l := [b0, b1, b2, b3, b4, b5, b6, b7, b8, b9, b10]) (hall 0 (by decide)) rfl
          have hb1 : b1 = true := getB (l := [b0, b1, b2, b3, b4, b5, b6, b7, b8, b9, b10]) (hall 1 (by decide)) rfl
          have hb2 : b2 = true := getB (l := [b0, b1, b2, b3, b4, b5, b6, b7, b8, b9, b10]) (hall 2 (by decide)) rfl
          have hb3 : b3 = true := getB (l := [b0, b1, b2, b3, b4, b5, b6, b7, b8, b9, b10]) (hall 3 (by decide)) rfl
          have hb4 : b4 = true := getB (l := [b0, b1, b2, b3, b4, b5, b6, b7, b8, b9, b10]) (hall 4 (by decide)) rfl
          have hb5 : b5 = true := getB (l := [b0, b1, b2, b3, b4, b5, b6, b7, b8, b9, b10]) (hall 5 (by decide)) rfl
          have hb6 : b6 = true := getB (l := [b0, b1, b2, b3, b4, b5, b6, b7, b8, b9, b10]) (hall 6 (by decide)) rfl
          have hb7 : b7 = true := getB (l := [b0, b1, b2, b3, b4, b5, b6, b7, b8, b9, b10]) (hall 7 (by decide)) rfl
          have hb8 : b8 = true := getB (l := [b0, b1, b2, b3, b4, b5, b6, b7, b8, b9, b10]) (hall 8 (by decide)) rfl
          have hb9 : b9 = true := getB (l := [b0, b1, b2, b3, b4, b5, b6, b7, b8, b9, b10]) (hall 9 (by decide)) rfl
          have hb10 : b10 = true := getB (l := [b0, b1, b2, b3, b4, b5, b6, b7, b8, b9, b10]) (hall 10 (by decide)) rfl
          subst hb0 hb1 hb2 hb3 hb4 hb5 hb6 hb7 hb8 hb9 hb10
          clear hall
          have m0 := hF0 rfl
          have m1 := hF1 rfl
          have m2 := hF2 rfl
          have m3 := hF3 rfl
          have m4 := hF4 rfl
          have m5 := hF5 rfl
          have m6 := hF6 rfl
          have m7 := hF7 rfl
          have m8 := hF8 rfl
          have m10 := hF10 rfl
          clear hF0 hF1 hF2 hF3 hF4 hF5 hF6 hF7 hF8 hF9 hF10
          obtain ⟨gg, sg, Ag, ng, cg, rfl, hgg, hkg, heg⟩ := m8
          obtain rfl := heg rfl
          clear heg hgg
          have hig := m6
          obtain rfl := m7
          obtain rfl := m10
          clear m0 m1 m2 m3 m4 m5 m6
          have hka := hka.up hup
          have hkb := hkb.up hup
          have hia := hia.up hup
          have hib := hib.up hup
          have hupw := hupw.trans hup
          clear hup
          have hkaa := hka.cell (i := 0) rfl
          have hkab := hka.cell (i := 1) rfl
          have hkal := hka.lt
          have hkba := hkb.cell (i := 0) rfl
          have hkbb := hkb.cell (i := 1) rfl
          have hkbl := hkb.lt
          have hkga := hkg.cell (i := 0) rfl
          have hkgb := hkg.cell (i := 1) rfl
          have hkgl := hkg.lt
          go_wp2_with fail
          clear hkaa hkab hkal hkba hkbb hkbl hkga hkgb hkgl
          have ka0 : W5_.cell? ⟨ga, 0, none⟩ = some (.bool sa) := hka.cell (i := 0) rfl
          have kb0 : W5_.cell? ⟨ga, 1, none⟩ = some (.slice Aa na ca) := hka.cell (i := 1) rfl
          have ka1 : W5_.cell? ⟨gb, 0, none⟩ = some (.bool sb) := hkb.cell (i := 0) rfl
          have kb1 : W5_.cell? ⟨gb, 1, none⟩ = some (.slice Ab nb cb) := hkb.cell (i := 1) rfl
          have ka2 : W5_.cell? ⟨gg, 0, none⟩ = some (.bool sg) := hkg.cell (i := 0) rfl
          have kb2 : W5_.cell? ⟨gg, 1, none⟩ = some (.slice Ag ng cg) := hkg.cell (i := 1) rfl
          have hupA : Up W5_ W5_.drew := (Up.refl W5_).drew
          go_region_held3 (fun w' => w'.cell? ⟨ga, 0, none⟩ = some (.bool sa) ∧ w'.cell? ⟨ga, 1, none⟩ = some (.slice Aa na ca) ∧ w'.cell? ⟨gb, 0, none⟩ = some (.bool sb) ∧ w'.cell? ⟨gb, 1, none⟩ = some (.slice Ab nb cb) ∧ w'.cell? ⟨gg, 0, none⟩ = some (.bool sg) ∧ w'.cell? ⟨gg, 1, none⟩ = some (.slice Ag ng cg))
            (exact ⟨hupA.keep ka0, hupA.keep kb0, hupA.keep ka1, hupA.keep kb1, hupA.keep ka2, hupA.keep kb2⟩)
            (first
              | (go_at_call 34; refine (rgcdD _ _ x y gd _ (hia.up hupA) (hib.up hupA) hta htb Hd).mono ?_; rintro e wx ⟨vr, rfl, hvr, hupx⟩; replace hupA := hupA.trans hupx)
              | (go_at_call 13; refine (equalI 0 0 _ _ gd _ (hig.up hupA) (hvr.mono (Nat.zero_le _)) htd).mono ?_; rintro e wx ⟨rfl, hupx⟩; replace hupA := hupA.trans hupx)
              | (go_at_call 15; refine (validI_any 0 _ gd _ (hig.up hupA) htd).mono ?_; rintro e wl ⟨rfl, hupx⟩; replace hupA := hupA.trans hupx))
          clear ka0 kb0 ka1 kb1 ka2 kb2
          have hka := hka.up hupA
          have hkb := hkb.up hupA
          have hkg := hkg.up hupA
          have hia := hia.up hupA
          have hib := hib.up hupA
          have hig := hig.up hupA
          have hupw := hupw.trans hupA
          clear hupA
          have hkaa := hka.cell (i := 0) rfl
          have hkab := hka.cell (i := 1) rfl
          have hkal := hka.lt
          have hkba := hkb.cell (i := 0) rfl
          have hkbb := hkb.cell (i := 1) rfl
          have hkbl := hkb.lt
          have hkga := hkg.cell (i := 0) rfl
          have hkgb := hkg.cell (i := 1) rfl
          have hkgl := hkg.lt
          go_wp2_with fail
          clear hkaa hkab hkal hkba hkbb hkbl hkga hkgb hkgl
          by_cases hd0 : gd = 0
          · skip
            have hds : (gd.sign == 0) = true := by rw [hd0]; rfl
            have hxs : (x.sign == 0) = true := by rw [(gcd_zero Hd hd0).1]; rfl
            have hys : (y.sign == 0) = true := by rw [(gcd_zero Hd hd0).2]; rfl
            clear hd0
            refine (rsignI 0 _ gd _ hig htd).mono ?_
            rintro e w6_ ⟨rfl, hup⟩
            have hka := hka.up hup
            have hkb := hkb.up hup
            have hkg := hkg.up hup
            have hia := hia.up hup
            have hib := hib.up hup
            have hig := hig.up hup
            have hupw := hupw.trans hup
            clear hup
            have hkaa := hka.cell (i := 0) rfl
            have hkab := hka.cell (i := 1) rfl
            have hkal := hka.lt
            have hkba := hkb.cell (i := 0) rfl
            have hkbb := hkb.cell (i := 1) rfl
            have hkbl := hkb.lt
            have hkga := hkg.cell (i := 0) rfl
            have hkgb := hkg.cell (i := 1) rfl
            have hkgl := hkg.lt
            go_wp2_with fail
            clear hkaa hkab hkal hkba hkbb hkbl hkga hkgb hkgl
            refine (rsignI 0 _ x _ hia hta).mono ?_
            rintro e w7_ ⟨rfl, hup⟩
            have hka := hka.up hup
            have hkb := hkb.up hup
            have hkg := hkg.up hup
            have hia := hia.up hup
            have hib := hib.up hup
            have hig := hig.up hup
            have hupw := hupw.trans hup
            clear hup
            have hkaa := hka.cell (i := 0) rfl
            have hkab := hka.cell (i := 1) rfl
            have hkal := hka.lt
            have hkba := hkb.cell (i := 0) rfl
            have hkbb := hkb.cell (i := 1) rfl
            have hkbl := hkb.lt
            have hkga := hkg.cell (i := 0) rfl
            have hkgb := hkg.cell (i := 1) rfl
            have hkgl := hkg.lt
            go_wp2_with fail
            clear hkaa hkab hkal hkba hkbb hkbl hkga hkgb hkgl
            refine (rsignI 0 _ y _ hib htb).mono ?_
            rintro e w8_ ⟨rfl, hup⟩
            have hka := hka.up hup
            have hkb := hkb.up hup
            have hkg := hkg.up hup
            have hia := hia.up hup
            have hib := hib.up hup
            have hig := hig.up hup
            have hupw := hupw.trans hup
            clear hup
            have hkaa := hka.cell (i := 0) rfl
            have hkab := hka.cell (i := 1) rfl
            have hkal := hka.lt
            have hkba := hkb.cell (i := 0) rfl
            have hkbb := hkb.cell (i := 1) rfl
            have hkbl := hkb.lt
            have hkga := hkg.cell (i := 0) rfl
            have hkgb := hkg.cell (i := 1) rfl
            have hkgl := hkg.lt
            go_wp2_with fail
            clear hkaa hkab hkal hkba hkbb hkbl hkga hkgb hkgl
            go_ret
            exact ⟨rfl, hupw⟩
          · skip
            have HD0 := hide hd0
            have hds : (gd.sign == 0) = false := by rw [beq_eq_false_iff_ne]; intro h; exact hd0 (Int.sign_eq_zero_iff_zero.1 h)
            clear hd0
            refine (rsignI 0 _ gd _ hig htd).mono ?_
            rintro e w6_ ⟨rfl, hup⟩
            have hka := hka.up hup
            have hkb := hkb.up hup
            have hkg := hkg.up hup
            have hia := hia.up hup
            have hib := hib.up hup
            have hig := hig.up hup
            have hupw := hupw.trans hup
            clear hup
            have hkaa := hka.cell (i := 0) rfl
            have hkab := hka.cell (i := 1) rfl
            have hkal := hka.lt
            have hkba := hkb.cell (i := 0) rfl
            have hkbb := hkb.cell (i := 1) rfl
            have hkbl := hkb.lt
            have hkga := hkg.cell (i := 0) rfl
            have hkgb := hkg.cell (i := 1) rfl
            have hkgl := hkg.lt
            go_wp2_with fail
            clear hkaa hkab hkal hkba hkbb hkbl hkga hkgb hkgl
            clear hds
            refine region_inv (fun l a W => ∃ (b0 b1 b2 b3 b4 b5 b6 b7 b8 b9 b10 b11 b12 : Bool) (x7_0 x7_1 x7_2 x7_3 x7_4 x7_5 x7_6 x7_7 x7_8 x7_9 x7_12 : Value), l = #[b0, b1, b2, b3, b4, b5, b6, b7, b8, b9, b10, b11, b12] ∧ a = { tmps := #[.agg #[.bool s, .slice A n c], .agg #[.bool t, .slice C m d], .pointer (some ⟨w.heap.size, 0, none⟩), .pointer (some ⟨w.heap.size + 1, 0, none⟩), .bool false, .pointer (some ⟨ga, 0, none⟩), .pointer (some ⟨gb, 0, none⟩), .pointer (some ⟨gg, 0, none⟩), .int .i64 0, x7_8, x7_9, x7_12, undef, undef, undef, .agg #[.bool s, .slice A n c], .agg #[.bool sa, .slice Aa na ca], .agg #[.bool t, .slice C m d], .agg #[.bool sb, .slice Ab nb cb], .bool true, .bool false, .bool false, .agg #[.bool sa, .slice Aa na ca], .bool true, .bool false, .bool false, .bool false, .agg #[.bool sb, .slice Ab nb cb], .bool true, .bool false, .bool false, undef, x5_5, x5_0, x5_1, x5_2, x5_3, x5_4, .agg #[.bool sg, .slice Ag ng cg], .int .i64 0, .int .i64 0, .bool false, .bool false, .agg #[.bool sg, .slice Ag ng cg], .agg #[.bool sa, .slice Aa na ca], .agg #[.bool sb, .slice Ab nb cb], vr, .bool true, .bool false, .bool false, .bool false, .agg #[.bool sg, .slice Ag ng cg], .bool true, .bool false, .bool false, .agg #[.bool sg, .slice Ag ng cg], .int .i64 gd.sign, .bool false, undef, undef, undef, undef, undef, undef, undef, undef, x7_4, x7_0, x7_1, x7_2, x7_3, x7_5, x7_6, x7_7, undef, undef, undef, undef, undef, undef, undef, undef, undef, undef, undef, undef, undef, undef, undef, undef, undef, undef, undef, undef, undef, undef, undef, undef], defers := [] } ∧ Up w6_ W ∧ (b0 = true → IsInt 0 W x7_0 (x)) ∧ (b1 = true → IsInt 0 W x7_1 (x)) ∧ (b2 = true → IsInt 0 W x7_2 (gd)) ∧ (b3 = true → ∃ v0 v1 : Value, x7_3 = .tuple #[v0, v1, .int .i64 0] ∧ IsInt 0 W v0 (x.tdiv gd) ∧ IsInt 0 W v1 (x.tmod gd)) ∧ (b4 = true → ∃ v0 v1 : Value, x7_4 = .tuple #[v0, v1, .int .i64 0] ∧ IsInt 0 W v0 (x.tdiv gd) ∧ IsInt 0 W v1 (x.tmod gd)) ∧ (b5 = true → IsInt 0 W x7_5 (x.tdiv gd)) ∧ (b6 = true → IsInt 0 W x7_6 (x.tmod gd)) ∧ (b7 = true → x7_7 = .int .i64 0) ∧ (b8 = true → Box (w6_.heap.size) W x7_8 b10 x7_5) ∧ (b9 = true → Box (w6_.heap.size) W x7_9 b11 x7_6) ∧ (b10 = true → b8 = true ∧ b5 = true) ∧ (b11 = true → b9 = true ∧ b6 = true) ∧ (b12 = true → x7_12 = .int .i64 0) ∧ (b8 = true → b9 = true → x7_8 ≠ x7_9)) (by kernel_rfl) (by kernel_rfl) ?hs ?h0 ?hstep ?hQ
            case hs => rintro l a W ⟨b0, b1, b2, b3, b4, b5, b6, b7, b8, b9, b10, b11, b12, x7_0, x7_1, x7_2, x7_3, x7_4, x7_5, x7_6, x7_7, x7_8, x7_9, x7_12, rfl, rfl, hup, hF0, hF1, hF2, hF3, hF4, hF5, hF6, hF7, hF8, hF9, hF10, hF11, hF12, hN8x9⟩; rfl
            case h0 => exact ⟨false, false, false, false, false, false, false, false, false, false, false, false, false, undef, undef, undef, undef, undef, undef, undef, undef, undef, undef, undef, rfl, rfl, (Up.refl w6_).drew, (fun h => by cases h), (fun h => by cases h), (fun h => by cases h), (fun h => by cases h), (fun h => by cases h), (fun h => by cases h), (fun h => by cases h), (fun h => by cases h), (fun h => by cases h), (fun h => by cases h), (fun h => by cases h), (fun h => by cases h), (fun h => by cases h), (fun h => by cases h)⟩
            case hstep =>
              rintro l a W ⟨b0, b1, b2, b3, b4, b5, b6, b7, b8, b9, b10, b11, b12, x7_0, x7_1, x7_2, x7_3, x7_4, x7_5, x7_6, x7_7, x7_8, x7_9, x7_12, rfl, rfl, hup, hF0, hF1, hF2, hF3, hF4, hF5, hF6, hF7, hF8, hF9, hF10, hF11, hF12, hN8x9⟩ i hi
              have hlt : i < 13 := ready_lt hi
              have HF0 := hide hF0
              have HF1 := hide hF1
              have HF2 := hide hF2
              have HF3 := hide hF3
              have HF4 := hide hF4
              have HF5 := hide hF5
              have HF6 := hide hF6
              have HF7 := hide hF7
              have HF8 := hide hF8
              have HF9 := hide hF9
              have HF10 := hide hF10
              have HF11 := hide hF11
              have HF12 := hide hF12
              have HN8x9 := hide hN8x9
              clear hF0 hF1 hF2 hF3 hF4 hF5 hF6 hF7 hF8 hF9 hF10 hF11 hF12 hN8x9
              have hcase : i = 0 ∨ i = 1 ∨ i = 2 ∨ i = 3 ∨ i = 4 ∨ i = 5 ∨ i = 6 ∨ i = 7 ∨ i = 8 ∨ i = 9 ∨ i = 10 ∨ i = 11 ∨ i = 12 := by omega
              clear hlt
              rcases hcase with rfl | rfl | rfl | rfl | rfl | rfl | rfl | rfl | rfl | rfl | rfl | rfl | rfl
              · skip
                have k0 := hka.up hup
                have k1 := k0.cell (i := 0) rfl
                have k2 := k0.cell (i := 1) rfl
                clear hi
                refine wpOp_step rfl (fun K hK => ?_)
                go_simp
                refine hK _ _ ?_
                clear hK K
                exact ⟨true, b1, b2, b3, b4, b5, b6, b7, b8, b9, b10, b11, b12, .agg #[.bool sa, .slice Aa na ca], x7_1, x7_2, x7_3, x7_4, x7_5, x7_6, x7_7, x7_8, x7_9, x7_12, rfl, rfl, hup, (fun _ => hia.up hup), HF1.out, HF2.out, HF3.out, HF4.out, HF5.out, HF6.out, HF7.out, HF8.out, HF9.out, HF10.out, HF11.out, HF12.out, HN8x9.out⟩
              · skip
                have hb : b0 = true := getB (l := [b0, b1, b2, b3, b4, b5, b6, b7, b8, b9, b10, b11, b12]) (ready_dep hi rfl 0 (by kernel_rfl)) rfl
                have hx := hide (HF0.out hb)
                clear hb
                clear hi
                refine wpOp_step rfl (fun K hK => ?_)
                go_simp
                refine (ownI 0 _ _ _ hx.out (by assumption)).mono ?_
                rintro e w1 ⟨v1, rfl, hv1, hup1⟩
                go_wp2_with fail
                exact ⟨b0, true, b2, b3, b4, b5, b6, b7, b8, b9, b10, b11, b12, x7_0, v1, x7_2, x7_3, x7_4, x7_5, x7_6, x7_7, x7_8, x7_9, x7_12, rfl, rfl, hup.trans hup1, (fun h => (HF0.out h).up hup1), (fun _ => hv1.mono (Nat.zero_le _)), (fun h => (HF2.out h).up hup1), (fun h => by obtain ⟨q0, q1, rq, r0, r1⟩ := HF3.out h; exact ⟨q0, q1, rq, r0.up hup1, r1.up hup1⟩), (fun h => by obtain ⟨q0, q1, rq, r0, r1⟩ := HF4.out h; exact ⟨q0, q1, rq, r0.up hup1, r1.up hup1⟩), (fun h => (HF5.out h).up hup1), (fun h => (HF6.out h).up hup1), HF7.out, (fun h => (HF8.out h).up hup1), (fun h => (HF9.out h).up hup1), HF10.out, HF11.out, HF12.out, HN8x9.out⟩
              · skip
                have k0 := hkg.up hup
                have k1 := k0.cell (i := 0) rfl
                have k2 := k0.cell (i := 1) rfl
                clear hi
                refine wpOp_step rfl (fun K hK => ?_)
                go_simp
                refine hK _ _ ?_
                clear hK K
                exact ⟨b0, b1, true, b3, b4, b5, b6, b7, b8, b9, b10, b11, b12, x7_0, x7_1, .agg #[.bool sg, .slice Ag ng cg], x7_3, x7_4, x7_5, x7_6, x7_7, x7_8, x7_9, x7_12, rfl, rfl, hup, HF0.out, HF1.out, (fun _ => hig.up hup), HF3.out, HF4.out, HF5.out, HF6.out, HF7.out, HF8.out, HF9.out, HF10.out, HF11.out, HF12.out, HN8x9.out⟩
              · skip
                have hb0q : b1 = true := getB (l := [b0, b1, b2, b3, b4, b5, b6, b7, b8, b9, b10, b11, b12]) (ready_dep hi rfl 1 (by kernel_rfl)) rfl
                have hx0 := hide (HF1.out hb0q)
                clear hb0q
                have hb1q : b2 = true := getB (l := [b0, b1, b2, b3, b4, b5, b6, b7, b8, b9, b10, b11, b12]) (ready_dep hi rfl 2 (by kernel_rfl)) rfl
                have hx1 := hide (HF2.out hb1q)
                clear hb1q
                clear hi
                refine wpOp_step rfl (fun K hK => ?_)
                go_simp
                refine (divI _ _ x gd _ hx0.out hx1.out hta htd HD0.out).mono ?_
                rintro e w1 ⟨v0, v1, rfl, hv0, hv1, hup1⟩
                go_wp2_with fail
                exact ⟨b0, b1, b2, true, b4, b5, b6, b7, b8, b9, b10, b11, b12, x7_0, x7_1, x7_2, .tuple #[v0, v1, .int .i64 0], x7_4, x7_5, x7_6, x7_7, x7_8, x7_9, x7_12, rfl, rfl, hup.trans hup1, (fun h => (HF0.out h).up hup1), (fun h => (HF1.out h).up hup1), (fun h => (HF2.out h).up hup1), (fun _ => ⟨v0, v1, rfl, hv0.mono (Nat.zero_le _), hv1.mono (Nat.zero_le _)⟩), (fun h => by obtain ⟨q0, q1, rq, r0, r1⟩ := HF4.out h; exact ⟨q0, q1, rq, r0.up hup1, r1.up hup1⟩), (fun h => (HF5.out h).up hup1), (fun h => (HF6.out h).up hup1), HF7.out, (fun h => (HF8.out h).up hup1), (fun h => (HF9.out h).up hup1), HF10.out, HF11.out, HF12.out, HN8x9.out⟩
              · skip
                have hb : b3 = true := getB (l := [b0, b1, b2, b3, b4, b5, b6, b7, b8, b9, b10, b11, b12]) (ready_dep hi rfl 3 (by kernel_rfl)) rfl
                have hx := hide (HF3.out hb)
                clear hb
                clear hi
                refine wpOp_step rfl (fun K hK => ?_)
                go_simp
                refine hK _ _ ?_
                clear hK K
                exact ⟨b0, b1, b2, b3, true, b5, b6, b7, b8, b9, b10, b11, b12, x7_0, x7_1, x7_2, x7_3, x7_3, x7_5, x7_6, x7_7, x7_8, x7_9, x7_12, rfl, rfl, hup, HF0.out, HF1.out, HF2.out, HF3.out, (fun _ => hx.out), HF5.out, HF6.out, HF7.out, HF8.out, HF9.out, HF10.out, HF11.out, HF12.out, HN8x9.out⟩
              · skip
                have hb : b4 = true := getB (l := [b0, b1, b2, b3, b4, b5, b6, b7, b8, b9, b10, b11, b12]) (ready_dep hi rfl 4 (by kernel_rfl)) rfl
                have Hb := hide hb
                obtain ⟨v0, v1, hxe, hv0, hv1⟩ := HF4.out hb
                clear hb
                subst hxe
                have hn := ready_not hi
                have hst10 : b10 = false := by
                  cases e : b10 with
                  | false => rfl
                  | true => have h5 := (HF10.out e).2; rw [h5] at hn; cases hn
                have Hst10 := hide hst10
                clear hst10
                clear hn
                clear hi
                refine wpOp_step rfl (fun K hK => ?_)
                go_simp
                refine hK _ _ ?_
                clear hK K
                exact ⟨b0, b1, b2, b3, b4, true, b6, b7, b8, b9, b10, b11, b12, x7_0, x7_1, x7_2, x7_3, .tuple #[v0, v1, .int .i64 0], v0, x7_6, x7_7, x7_8, x7_9, x7_12, rfl, rfl, hup, HF0.out, HF1.out, HF2.out, HF3.out, HF4.out, (fun _ => hv0), HF6.out, HF7.out, (fun h => by rw [Hst10.out] at *; obtain ⟨g, s, A, n, c, h1, h2, h3, _⟩ := HF8.out h; exact ⟨g, s, A, n, c, h1, h2, h3.up (Up.refl _), fun h => by cases h⟩), HF9.out, (fun h => ⟨(HF10.out h).1, rfl⟩), HF11.out, HF12.out, HN8x9.out⟩
              · skip
                have hb : b4 = true := getB (l := [b0, b1, b2, b3, b4, b5, b6, b7, b8, b9, b10, b11, b12]) (ready_dep hi rfl 4 (by kernel_rfl)) rfl
                have Hb := hide hb
                obtain ⟨v0, v1, hxe, hv0, hv1⟩ := HF4.out hb
                clear hb
                subst hxe
                have hn := ready_not hi
                have hst11 : b11 = false := by
                  cases e : b11 with
                  | false => rfl
                  | true => have h5 := (HF11.out e).2; rw [h5] at hn; cases hn
                have Hst11 := hide hst11
                clear hst11
                clear hn
                clear hi
                refine wpOp_step rfl (fun K hK => ?_)
                go_simp
                refine hK _ _ ?_
                clear hK K
                exact ⟨b0, b1, b2, b3, b4, b5, true, b7, b8, b9, b10, b11, b12, x7_0, x7_1, x7_2, x7_3, .tuple #[v0, v1, .int .i64 0], x7_5, v1, x7_7, x7_8, x7_9, x7_12, rfl, rfl, hup, HF0.out, HF1.out, HF2.out, HF3.out, HF4.out, HF5.out, (fun _ => hv1), HF7.out, HF8.out, (fun h => by rw [Hst11.out] at *; obtain ⟨g, s, A, n, c, h1, h2, h3, _⟩ := HF9.out h; exact ⟨g, s, A, n, c, h1, h2, h3.up (Up.refl _), fun h => by cases h⟩), HF10.out, (fun h => ⟨(HF11.out h).1, rfl⟩), HF12.out, HN8x9.out⟩
              · skip
                have hb : b4 = true := getB (l := [b0, b1, b2, b3, b4, b5, b6, b7, b8, b9, b10, b11, b12]) (ready_dep hi rfl 4 (by kernel_rfl)) rfl
                have Hb := hide hb
                obtain ⟨v0, v1, hxe, hv0, hv1⟩ := HF4.out hb
                clear hb
                subst hxe
                clear hi
                refine wpOp_step rfl (fun K hK => ?_)
                go_simp
                refine hK _ _ ?_
                clear hK K
                exact ⟨b0, b1, b2, b3, b4, b5, b6, true, b8, b9, b10, b11, b12, x7_0, x7_1, x7_2, x7_3, .tuple #[v0, v1, .int .i64 0], x7_5, x7_6, .int .i64 0, x7_8, x7_9, x7_12, rfl, rfl, hup, HF0.out, HF1.out, HF2.out, HF3.out, HF4.out, HF5.out, HF6.out, (fun _ => rfl), HF8.out, HF9.out, HF10.out, HF11.out, HF12.out, HN8x9.out⟩
              · skip
                have hn := ready_not hi
                have hst10 : b10 = false := by
                  cases e : b10 with
                  | false => rfl
                  | true => have h5 := (HF10.out e).1; rw [h5] at hn; cases hn
                have Hst10 := hide hst10
                clear hst10
                clear hn
                clear hi
                have hsz := hup.size
                have hupA := (Up.refl W).alloc (.cells #[.bool false, .slice none 0 0] 24)
                refine wpOp_step rfl (fun K hK => ?_)
                go_simp
                refine hK _ _ ?_
                clear hK K
                exact ⟨b0, b1, b2, b3, b4, b5, b6, b7, true, b9, b10, b11, b12, x7_0, x7_1, x7_2, x7_3, x7_4, x7_5, x7_6, x7_7, .pointer (some ⟨W.heap.size, 0, none⟩), x7_9, x7_12, rfl, rfl, hup.trans hupA, (fun h => (HF0.out h).up hupA), (fun h => (HF1.out h).up hupA), (fun h => (HF2.out h).up hupA), (fun h => by obtain ⟨q0, q1, rq, r0, r1⟩ := HF3.out h; exact ⟨q0, q1, rq, r0.up hupA, r1.up hupA⟩), (fun h => by obtain ⟨q0, q1, rq, r0, r1⟩ := HF4.out h; exact ⟨q0, q1, rq, r0.up hupA, r1.up hupA⟩), (fun h => (HF5.out h).up hupA), (fun h => (HF6.out h).up hupA), HF7.out, (fun _ => by rw [Hst10.out]; exact Box.new _ W _ hsz), (fun h => (HF9.out h).up hupA), (fun h => ⟨rfl, (HF10.out h).2⟩), HF11.out, HF12.out, (fun _ h => (HF9.out h).ne_new.symm)⟩
              · skip
                have hn := ready_not hi
                have hst11 : b11 = false := by
                  cases e : b11 with
                  | false => rfl
                  | true => have h5 := (HF11.out e).1; rw [h5] at hn; cases hn
                have Hst11 := hide hst11
                clear hst11
                clear hn
                clear hi
                have hsz := hup.size
                have hupA := (Up.refl W).alloc (.cells #[.bool false, .slice none 0 0] 24)
                refine wpOp_step rfl (fun K hK => ?_)
                go_simp
                refine hK _ _ ?_
                clear hK K
                exact ⟨b0, b1, b2, b3, b4, b5, b6, b7, b8, true, b10, b11, b12, x7_0, x7_1, x7_2, x7_3, x7_4, x7_5, x7_6, x7_7, x7_8, .pointer (some ⟨W.heap.size, 0, none⟩), x7_12, rfl, rfl, hup.trans hupA, (fun h => (HF0.out h).up hupA), (fun h => (HF1.out h).up hupA), (fun h => (HF2.out h).up hupA), (fun h => by obtain ⟨q0, q1, rq, r0, r1⟩ := HF3.out h; exact ⟨q0, q1, rq, r0.up hupA, r1.up hupA⟩), (fun h => by obtain ⟨q0, q1, rq, r0, r1⟩ := HF4.out h; exact ⟨q0, q1, rq, r0.up hupA, r1.up hupA⟩), (fun h => (HF5.out h).up hupA), (fun h => (HF6.out h).up hupA), HF7.out, (fun h => (HF8.out h).up hupA), (fun _ => by rw [Hst11.out]; exact Box.new _ W _ hsz), HF10.out, (fun h => ⟨rfl, (HF11.out h).2⟩), HF12.out, (fun h _ => (HF8.out h).ne_new)⟩
              · skip
                have hb2 : b8 = true := getB (l := [b0, b1, b2, b3, b4, b5, b6, b7, b8, b9, b10, b11, b12]) (ready_dep hi rfl 8 (by kernel_rfl)) rfl
                have hb1 : b5 = true := getB (l := [b0, b1, b2, b3, b4, b5, b6, b7, b8, b9, b10, b11, b12]) (ready_dep hi rfl 5 (by kernel_rfl)) rfl
                clear hi
                obtain ⟨s9, A9, n9, c9, hxc⟩ := (HF5.out hb1).agg
                subst hxc
                obtain ⟨g, s8, A8, n8, c8, hxb, hgB, hbk, _⟩ := HF8.out hb2
                subst hxb
                have f1 := hbk.cell (i := 0) rfl
                have f2 := hbk.cell (i := 1) rfl
                have f3 := hbk.frozen 0
                have f4 := hbk.frozen 1
                have Hb1 := hide hb1
                have Hb2 := hide hb2
                have hsz := hup.size
                clear hb1 hb2
                refine wpOp_step rfl (fun K hK => ?_)
                go_simp
                refine hK _ _ ?_
                clear hK K
                exact ⟨b0, b1, b2, b3, b4, b5, b6, b7, b8, b9, true, b11, b12, x7_0, x7_1, x7_2, x7_3, x7_4, .agg #[.bool s9, .slice A9 n9 c9], x7_6, x7_7, .pointer (some ⟨g, 0, none⟩), x7_9, x7_12, rfl, rfl, hup.two (g := g) hgB _ _, (fun h => (HF0.out h).boxed hbk _ _), (fun h => (HF1.out h).boxed hbk _ _), (fun h => (HF2.out h).boxed hbk _ _), (fun h => by obtain ⟨q0, q1, rq, r0, r1⟩ := HF3.out h; exact ⟨q0, q1, rq, r0.boxed hbk _ _, r1.boxed hbk _ _⟩), (fun h => by obtain ⟨q0, q1, rq, r0, r1⟩ := HF4.out h; exact ⟨q0, q1, rq, r0.boxed hbk _ _, r1.boxed hbk _ _⟩), (fun h => (HF5.out h).boxed hbk _ _), (fun h => (HF6.out h).boxed hbk _ _), HF7.out, (fun _ => hbk.fill hgB), (fun h => (HF9.out h).far ((HN8x9.out Hb2.out h).symm) _ _), (fun _ => ⟨Hb2.out, Hb1.out⟩), HF11.out, HF12.out, HN8x9.out⟩
              · skip
                have hb2 : b9 = true := getB (l := [b0, b1, b2, b3, b4, b5, b6, b7, b8, b9, b10, b11, b12]) (ready_dep hi rfl 9 (by kernel_rfl)) rfl
                have hb1 : b6 = true := getB (l := [b0, b1, b2, b3, b4, b5, b6, b7, b8, b9, b10, b11, b12]) (ready_dep hi rfl 6 (by kernel_rfl)) rfl
                clear hi
                obtain ⟨s9, A9, n9, c9, hxc⟩ := (HF6.out hb1).agg
                subst hxc
                obtain ⟨g, s8, A8, n8, c8, hxb, hgB, hbk, _⟩ := HF9.out hb2
                subst hxb
                have f1 := hbk.cell (i := 0) rfl
                have f2 := hbk.cell (i := 1) rfl
                have f3 := hbk.frozen 0
                have f4 := hbk.frozen 1
                have Hb1 := hide hb1
                have Hb2 := hide hb2
                have hsz := hup.size
                clear hb1 hb2
                refine wpOp_step rfl (fun K hK => ?_)
                go_simp
                refine hK _ _ ?_
                clear hK K
                exact ⟨b0, b1, b2, b3, b4, b5, b6, b7, b8, b9, b10, true, b12, x7_0, x7_1, x7_2, x7_3, x7_4, x7_5, .agg #[.bool s9, .slice A9 n9 c9], x7_7, x7_8, .pointer (some ⟨g, 0, none⟩), x7_12, rfl, rfl, hup.two (g := g) hgB _ _, (fun h => (HF0.out h).boxed hbk _ _), (fun h => (HF1.out h).boxed hbk _ _), (fun h => (HF2.out h).boxed hbk _ _), (fun h => by obtain ⟨q0, q1, rq, r0, r1⟩ := HF3.out h; exact ⟨q0, q1, rq, r0.boxed hbk _ _, r1.boxed hbk _ _⟩), (fun h => by obtain ⟨q0, q1, rq, r0, r1⟩ := HF4.out h; exact ⟨q0, q1, rq, r0.boxed hbk _ _, r1.boxed hbk _ _⟩), (fun h => (HF5.out h).boxed hbk _ _), (fun h => (HF6.out h).boxed hbk _ _), HF7.out, (fun h => (HF8.out h).far (HN8x9.out h Hb2.out) _ _), (fun _ => hbk.fill hgB), HF10.out, (fun _ => ⟨Hb2.out, Hb1.out⟩), HF12.out, HN8x9.out⟩
              · skip
                have hb : b7 = true := getB (l := [b0, b1, b2, b3, b4, b5, b6, b7, b8, b9, b10, b11, b12]) (ready_dep hi rfl 7 (by kernel_rfl)) rfl
                have hx := hide (HF7.out hb)
                clear hb
                clear hi
                refine wpOp_step rfl (fun K hK => ?_)
                go_simp
                refine hK _ _ ?_
                clear hK K
                exact ⟨b0, b1, b2, b3, b4, b5, b6, b7, b8, b9, b10, b11, true, x7_0, x7_1, x7_2, x7_3, x7_4, x7_5, x7_6, x7_7, x7_8, x7_9, x7_7, rfl, rfl, hup, HF0.out, HF1.out, HF2.out, HF3.out, HF4.out, HF5.out, HF6.out, HF7.out, HF8.out, HF9.out, HF10.out, HF11.out, (fun _ => hx.out), HN8x9.out⟩
            case hQ =>
              rintro l a W7_ ⟨b0, b1, b2, b3, b4, b5, b6, b7, b8, b9, b10, b11, b12, x7_0, x7_1, x7_2, x7_3, x7_4, x7_5, x7_6, x7_7, x7_8, x7_9, x7_12, rfl, rfl, hup, hF0, hF1, hF2, hF3, hF4, hF5, hF6, hF7, hF8, hF9, hF10, hF11, hF12, hN8x9⟩ hall
              have hb0 : b0 = true := getB (l := [b0, b1, b2, b3, b4, b5, b6, b7, b8, b9, b10, b11, b12]) (hall 0 (by decide)) rfl
              have hb1 : b1 = true := getB (l := [b0, b1, b2, b3, b4, b5, b6, b7, b8, b9, b10, b11, b12]) (hall 1 (by decide)) rfl
              have hb2 : b2 = true := getB (l := [b0, b1, b2, b3, b4, b5, b6, b7, b8, b9, b10, b11, b12]) (hall 2 (by decide)) rfl
              have hb3 : b3 = true := getB (l := [b0, b1, b2, b3, b4, b5, b6, b7, b8, b9, b10, b11, b12]) (hall 3 (by decide)) rfl
              have hb4 : b4 = true := getB (l := [b0, b1, b2, b3, b4, b5, b6, b7, b8, b9, b10, b11, b12]) (hall 4 (by decide)) rfl
              have hb5 : b5 = true := getB (l := [b0, b1, b2, b3, b4, b5, b6, b7, b8, b9, b10, b11, b12]) (hall 5 (by decide)) rfl
              have hb6 : b6 = true := getB (l := [b0, b1, b2, b3, b4, b5, b6, b7, b8, b9, b10, b11, b12]) (hall 6 (by decide)) rfl
              have hb7 : b7 = true := getB (l := [b0, b1, b2, b3, b4, b5, b6, b7, b8, b9, b10, b11, b12]) (hall 7 (by decide)) rfl
              have hb8 : b8 = true := getB (l := [b0, b1, b2, b3, b4, b5, b6, b7, b8, b9, b10, b11, b12]) (hall 8 (by decide)) rfl
              have hb9 : b9 = true := getB (l := [b0, b1, b2, b3, b4, b5, b6, b7, b8, b9, b10, b11, b12]) (hall 9 (by decide)) rfl
              have hb10 : b10 = true := getB (l := [b0, b1, b2, b3, b4, b5, b6, b7, b8, b9, b10, b11, b12]) (hall 10 (by decide)) rfl
              have hb11 : b11 = true := getB (l := [b0, b1, b2, b3, b4, b5, b6, b7, b8, b9, b10, b11, b12]) (hall 11 (by decide)) rfl
              have hb12 : b12 = true := getB (l := [b0, b1, b2, b3, b4, b5, b6, b7, b8, b9, b10, b11, b12]) (hall 12 (by decide)) rfl
              subst hb0 hb1 hb2 hb3 hb4 hb5 hb6 hb7 hb8 hb9 hb10 hb11 hb12
              clear hall
              have m0 := hF0 rfl
              have m1 := hF1 rfl
              have m2 := hF2 rfl
              have m3 := hF3 rfl
              have m4 := hF4 rfl
              have m5 := hF5 rfl
              have m6 := hF6 rfl
              have m7 := hF7 rfl
              have m8 := hF8 rfl
              have m9 := hF9 rfl
              have m12 := hF12 rfl
              clear hF0 hF1 hF2 hF3 hF4 hF5 hF6 hF7 hF8 hF9 hF10 hF11 hF12 hN8x9
              obtain ⟨gq1, sq1, Aq1, nq1, cq1, rfl, hgq1, hkq1, heq1⟩ := m8
              obtain rfl := heq1 rfl
              clear heq1 hgq1
              have hiq1 := m5
              obtain ⟨gr1, sr1, Ar1, nr1, cr1, rfl, hgr1, hkr1, her1⟩ := m9
              obtain rfl := her1 rfl
              clear her1 hgr1
              have hir1 := m6
              obtain rfl := m7
              obtain rfl := m12
              clear m0 m1 m2 m3 m4 m5 m6
              have hka := hka.up hup
              have hkb := hkb.up hup
              have hkg := hkg.up hup
              have hia := hia.up hup
              have hib := hib.up hup
              have hig := hig.up hup
              have hupw := hupw.trans hup
              clear hup
              have hkaa := hka.cell (i := 0) rfl
              have hkab := hka.cell (i := 1) rfl
              have hkal := hka.lt
              have hkba := hkb.cell (i := 0) rfl
              have hkbb := hkb.cell (i := 1) rfl
              have hkbl := hkb.lt
              have hkga := hkg.cell (i := 0) rfl
              have hkgb := hkg.cell (i := 1) rfl
              have hkgl := hkg.lt
              have hkq1a := hkq1.cell (i := 0) rfl
              have hkq1b := hkq1.cell (i := 1) rfl
              have hkq1l := hkq1.lt
              have hkr1a := hkr1.cell (i := 0) rfl
              have hkr1b := hkr1.cell (i := 1) rfl
              have hkr1l := hkr1.lt
              go_wp2_with fail
              clear hkaa hkab hkal hkba hkbb hkbl hkga hkgb hkgl hkq1a hkq1b hkq1l hkr1a hkr1b hkr1l
              refine region_inv (fun l a W => ∃ (b0 b1 b2 b3 b4 b5 b6 b7 b8 b9 b10 b11 b12 : Bool) (x8_0 x8_1 x8_2 x8_3 x8_4 x8_5 x8_6 x8_7 x8_8 x8_9 x8_12 : Value), l = #[b0, b1, b2, b3, b4, b5, b6, b7, b8, b9, b10, b11, b12] ∧ a = { tmps := #[.agg #[.bool s, .slice A n c], .agg #[.bool t, .slice C m d], .pointer (some ⟨w.heap.size, 0, none⟩), .pointer (some ⟨w.heap.size + 1, 0, none⟩), .bool false, .pointer (some ⟨ga, 0, none⟩), .pointer (some ⟨gb, 0, none⟩), .pointer (some ⟨gg, 0, none⟩), .int .i64 0, .pointer (some ⟨gq1, 0, none⟩), .pointer (some ⟨gr1, 0, none⟩), .int .i64 0, x8_8, x8_9, x8_12, .agg #[.bool s, .slice A n c], .agg #[.bool sa, .slice Aa na ca], .agg #[.bool t, .slice C m d], .agg #[.bool sb, .slice Ab nb cb], .bool true, .bool false, .bool false, .agg #[.bool sa, .slice Aa na ca], .bool true, .bool false, .bool false, .bool false, .agg #[.bool sb, .slice Ab nb cb], .bool true, .bool false, .bool false, undef, x5_5, x5_0, x5_1, x5_2, x5_3, x5_4, .agg #[.bool sg, .slice Ag ng cg], .int .i64 0, .int .i64 0, .bool false, .bool false, .agg #[.bool sg, .slice Ag ng cg], .agg #[.bool sa, .slice Aa na ca], .agg #[.bool sb, .slice Ab nb cb], vr, .bool true, .bool false, .bool false, .bool false, .agg #[.bool sg, .slice Ag ng cg], .bool true, .bool false, .bool false, .agg #[.bool sg, .slice Ag ng cg], .int .i64 gd.sign, .bool false, undef, undef, undef, undef, undef, undef, undef, undef, x7_4, x7_0, x7_1, x7_2, x7_3, .agg #[.bool sq1, .slice Aq1 nq1 cq1], .agg #[.bool sr1, .slice Ar1 nr1 cr1], .int .i64 0, x8_4, x8_0, x8_1, x8_2, x8_3, x8_5, x8_6, x8_7, undef, undef, undef, undef, undef, undef, undef, undef, undef, undef, undef, undef, undef, undef, undef, undef], defers := [] } ∧ Up W7_ W ∧ (b0 = true → IsInt 0 W x8_0 (y)) ∧ (b1 = true → IsInt 0 W x8_1 (y)) ∧ (b2 = true → IsInt 0 W x8_2 (gd)) ∧ (b3 = true → ∃ v0 v1 : Value, x8_3 = .tuple #[v0, v1, .int .i64 0] ∧ IsInt 0 W v0 (y.tdiv gd) ∧ IsInt 0 W v1 (y.tmod gd)) ∧ (b4 = true → ∃ v0 v1 : Value, x8_4 = .tuple #[v0, v1, .int .i64 0] ∧ IsInt 0 W v0 (y.tdiv gd) ∧ IsInt 0 W v1 (y.tmod gd)) ∧ (b5 = true → IsInt 0 W x8_5 (y.tdiv gd)) ∧ (b6 = true → IsInt 0 W x8_6 (y.tmod gd)) ∧ (b7 = true → x8_7 = .int .i64 0) ∧ (b8 = true → Box (W7_.heap.size) W x8_8 b10 x8_5) ∧ (b9 = true → Box (W7_.heap.size) W x8_9 b11 x8_6) ∧ (b10 = true → b8 = true ∧ b5 = true) ∧ (b11 = true → b9 = true ∧ b6 = true) ∧ (b12 = true → x8_12 = .int .i64 0) ∧ (b8 = true → b9 = true → x8_8 ≠ x8_9)) (by kernel_rfl) (by kernel_rfl) ?hs ?h0 ?hstep ?hQ
              case hs => rintro l a W ⟨b0, b1, b2, b3, b4, b5, b6, b7, b8, b9, b10, b11, b12, x8_0, x8_1, x8_2, x8_3, x8_4, x8_5, x8_6, x8_7, x8_8, x8_9, x8_12, rfl, rfl, hup, hF0, hF1, hF2, hF3, hF4, hF5, hF6, hF7, hF8, hF9, hF10, hF11, hF12, hN8x9⟩; rfl
              case h0 => exact ⟨false, false, false, false, false, false, false, false, false, false, false, false, false, undef, undef, undef, undef, undef, undef, undef, undef, undef, undef, undef, rfl, rfl, (Up.refl W7_).drew, (fun h => by cases h), (fun h => by cases h), (fun h => by cases h), (fun h => by cases h), (fun h => by cases h), (fun h => by cases h), (fun h => by cases h), (fun h => by cases h), (fun h => by cases h), (fun h => by cases h), (fun h => by cases h), (fun h => by cases h), (fun h => by cases h), (fun h => by cases h)⟩
              case hstep =>
                rintro l a W ⟨b0, b1, b2, b3, b4, b5, b6, b7, b8, b9, b10, b11, b12, x8_0, x8_1, x8_2, x8_3, x8_4, x8_5, x8_6, x8_7, x8_8, x8_9, x8_12, rfl, rfl, hup, hF0, hF1, hF2, hF3, hF4, hF5, hF6, hF7, hF8, hF9, hF10, hF11, hF12, hN8x9⟩ i hi
                have hlt : i < 13 := ready_lt hi
                have HF0 := hide hF0
                have HF1 := hide hF1
                have HF2 := hide hF2
                have HF3 := hide hF3
                have HF4 := hide hF4
                have HF5 := hide hF5
                have HF6 := hide hF6
                have HF7 := hide hF7
                have HF8 := hide hF8
                have HF9 := hide hF9
                have HF10 := hide hF10
                have HF11 := hide hF11
                have HF12 := hide hF12
                have HN8x9 := hide hN8x9
                clear hF0 hF1 hF2 hF3 hF4 hF5 hF6 hF7 hF8 hF9 hF10 hF11 hF12 hN8x9
                have hcase : i = 0 ∨ i = 1 ∨ i = 2 ∨ i = 3 ∨ i = 4 ∨ i = 5 ∨ i = 6 ∨ i = 7 ∨ i = 8 ∨ i = 9 ∨ i = 10 ∨ i = 11 ∨ i = 12 := by omega
                clear hlt
                rcases hcase with rfl | rfl | rfl | rfl | rfl | rfl | rfl | rfl | rfl | rfl | rfl | rfl | rfl
                · skip
                  have k0 := hkb.up hup
                  have k1 := k0.cell (i := 0) rfl
                  have k2 := k0.cell (i := 1) rfl
                  clear hi
                  refine wpOp_step rfl (fun K hK => ?_)
                  go_simp
                  refine hK _ _ ?_
                  clear hK K
                  exact ⟨true, b1, b2, b3, b4, b5, b6, b7, b8, b9, b10, b11, b12, .agg #[.bool sb, .slice Ab nb cb], x8_1, x8_2, x8_3, x8_4, x8_5, x8_6, x8_7, x8_8, x8_9, x8_12, rfl, rfl, hup, (fun _ => hib.up hup), HF1.out, HF2.out, HF3.out, HF4.out, HF5.out, HF6.out, HF7.out, HF8.out, HF9.out, HF10.out, HF11.out, HF12.out, HN8x9.out⟩
                · skip
                  have hb : b0 = true := getB (l := [b0, b1, b2, b3, b4, b5, b6, b7, b8, b9, b10, b11, b12]) (ready_dep hi rfl 0 (by kernel_rfl)) rfl
                  have hx := hide (HF0.out hb)
                  clear hb
                  clear hi
                  refine wpOp_step rfl (fun K hK => ?_)
                  go_simp
                  refine (ownI 0 _ _ _ hx.out (by assumption)).mono ?_
                  rintro e w1 ⟨v1, rfl, hv1, hup1⟩
                  go_wp2_with fail
                  exact ⟨b0, true, b2, b3, b4, b5, b6, b7, b8, b9, b10, b11, b12, x8_0, v1, x8_2, x8_3, x8_4, x8_5, x8_6, x8_7, x8_8, x8_9, x8_12, rfl, rfl, hup.trans hup1, (fun h => (HF0.out h).up hup1), (fun _ => hv1.mono (Nat.zero_le _)), (fun h => (HF2.out h).up hup1), (fun h => by obtain ⟨q0, q1, rq, r0, r1⟩ := HF3.out h; exact ⟨q0, q1, rq, r0.up hup1, r1.up hup1⟩), (fun h => by obtain ⟨q0, q1, rq, r0, r1⟩ := HF4.out h; exact ⟨q0, q1, rq, r0.up hup1, r1.up hup1⟩), (fun h => (HF5.out h).up hup1), (fun h => (HF6.out h).up hup1), HF7.out, (fun h => (HF8.out h).up hup1), (fun h => (HF9.out h).up hup1), HF10.out, HF11.out, HF12.out, HN8x9.out⟩
                · skip
                  have k0 := hkg.up hup
                  have k1 := k0.cell (i := 0) rfl
                  have k2 := k0.cell (i := 1) rfl
                  clear hi
                  refine wpOp_step rfl (fun K hK => ?_)
                  go_simp
                  refine hK _ _ ?_
                  clear hK K
                  exact ⟨b0, b1, true, b3, b4, b5, b6, b7, b8, b9, b10, b11, b12, x8_0, x8_1, .agg #[.bool sg, .slice Ag ng cg], x8_3, x8_4, x8_5, x8_6, x8_7, x8_8, x8_9, x8_12, rfl, rfl, hup, HF0.out, HF1.out, (fun _ => hig.up hup), HF3.out, HF4.out, HF5.out, HF6.out, HF7.out, HF8.out, HF9.out, HF10.out, HF11.out, HF12.out, HN8x9.out⟩
                · skip
                  have hb0q : b1 = true := getB (l := [b0, b1, b2, b3, b4, b5, b6, b7, b8, b9, b10, b11, b12]) (ready_dep hi rfl 1 (by kernel_rfl)) rfl
                  have hx0 := hide (HF1.out hb0q)
                  clear hb0q
                  have hb1q : b2 = true := getB (l := [b0, b1, b2, b3, b4, b5, b6, b7, b8, b9, b10, b11, b12]) (ready_dep hi rfl 2 (by kernel_rfl)) rfl
                  have hx1 := hide (HF2.out hb1q)
                  clear hb1q
                  clear hi
                  refine wpOp_step rfl (fun K hK => ?_)
                  go_simp
                  refine (divI _ _ y gd _ hx0.out hx1.out htb htd HD0.out).mono ?_
                  rintro e w1 ⟨v0, v1, rfl, hv0, hv1, hup1⟩
                  go_wp2_with fail
                  exact ⟨b0, b1, b2, true, b4, b5, b6, b7, b8, b9, b10, b11, b12, x8_0, x8_1, x8_2, .tuple #[v0, v1, .int .i64 0], x8_4, x8_5, x8_6, x8_7, x8_8, x8_9, x8_12, rfl, rfl, hup.trans hup1, (fun h => (HF0.out h).up hup1), (fun h => (HF1.out h).up hup1), (fun h => (HF2.out h).up hup1), (fun _ => ⟨v0, v1, rfl, hv0.mono (Nat.zero_le _), hv1.mono (Nat.zero_le _)⟩), (fun h => by obtain ⟨q0, q1, rq, r0, r1⟩ := HF4.out h; exact ⟨q0, q1, rq, r0.up hup1, r1.up hup1⟩), (fun h => (HF5.out h).up hup1), (fun h => (HF6.out h).up hup1), HF7.out, (fun h => (HF8.out h).up hup1), (fun h => (HF9.out h).up hup1), HF10.out, HF11.out, HF12.out, HN8x9.out⟩
                · skip
                  have hb : b3 = true := getB (l := [b0, b1, b2, b3, b4, b5, b6, b7, b8, b9, b10, b11, b12]) (ready_dep hi rfl 3 (by kernel_rfl)) rfl
                  have hx := hide (HF3.out hb)
                  clear hb
                  clear hi
                  refine wpOp_step rfl (fun K hK => ?_)
                  go_simp
                  refine hK _ _ ?_
                  clear hK K
                  exact ⟨b0, b1, b2, b3, true, b5, b6, b7, b8, b9, b10, b11, b12, x8_0, x8_1, x8_2, x8_3, x8_3, x8_5, x8_6, x8_7, x8_8, x8_9, x8_12, rfl, rfl, hup, HF0.out, HF1.out, HF2.out, HF3.out, (fun _ => hx.out), HF5.out, HF6.out, HF7.out, HF8.out, HF9.out, HF10.out, HF11.out, HF12.out, HN8x9.out⟩
                · skip
                  have hb : b4 = true := getB (l := [b0, b1, b2, b3, b4, b5, b6, b7, b8, b9, b10, b11, b12]) (ready_dep hi rfl 4 (by kernel_rfl)) rfl
                  have Hb := hide hb
                  obtain ⟨v0, v1, hxe, hv0, hv1⟩ := HF4.out hb
                  clear hb
                  subst hxe
                  have hn := ready_not hi
                  have hst10 : b10 = false := by
                    cases e : b10 with
                    | false => rfl
                    | true => have h5 := (HF10.out e).2; rw [h5] at hn; cases hn
                  have Hst10 := hide hst10
                  clear hst10
                  clear hn
                  clear hi
                  refine wpOp_step rfl (fun K hK => ?_)
                  go_simp
                  refine hK _ _ ?_
                  clear hK K
                  exact ⟨b0, b1, b2, b3, b4, true, b6, b7, b8, b9, b10, b11, b12, x8_0, x8_1, x8_2, x8_3, .tuple #[v0, v1, .int .i64 0], v0, x8_6, x8_7, x8_8, x8_9, x8_12, rfl, rfl, hup, HF0.out, HF1.out, HF2.out, HF3.out, HF4.out, (fun _ => hv0), HF6.out, HF7.out, (fun h => by rw [Hst10.out] at *; obtain ⟨g, s, A, n, c, h1, h2, h3, _⟩ := HF8.out h; exact ⟨g, s, A, n, c, h1, h2, h3.up (Up.refl _), fun h => by cases h⟩), HF9.out, (fun h => ⟨(HF10.out h).1, rfl⟩), HF11.out, HF12.out, HN8x9.out⟩
                · skip
                  have hb : b4 = true := getB (l := [b0, b1, b2, b3, b4, b5, b6, b7, b8, b9, b10, b11, b12]) (ready_dep hi rfl 4 (by kernel_rfl)) rfl
                  have Hb := hide hb
                  obtain ⟨v0, v1, hxe, hv0, hv1⟩ := HF4.out hb
                  clear hb
                  subst hxe
                  have hn := ready_not hi
                  have hst11 : b11 = false := by
                    cases e : b11 with
                    | false => rfl
                    | true => have h5 := (HF11.out e).2; rw [h5] at hn; cases hn
                  have Hst11 := hide hst11
                  clear hst11
                  clear hn
                  clear hi
                  refine wpOp_step rfl (fun K hK => ?_)
                  go_simp
                  refine hK _ _ ?_
                  clear hK K
                  exact ⟨b0, b1, b2, b3, b4, b5, true, b7, b8, b9, b10, b11, b12, x8_0, x8_1, x8_2, x8_3, .tuple #[v0, v1, .int .i64 0], x8_5, v1, x8_7, x8_8, x8_9, x8_12, rfl, rfl, hup, HF0.out, HF1.out, HF2.out, HF3.out, HF4.out, HF5.out, (fun _ => hv1), HF7.out, HF8.out, (fun h => by rw [Hst11.out] at *; obtain ⟨g, s, A, n, c, h1, h2, h3, _⟩ := HF9.out h; exact ⟨g, s, A, n, c, h1, h2, h3.up (Up.refl _), fun h => by cases h⟩), HF10.out, (fun h => ⟨(HF11.out h).1, rfl⟩), HF12.out, HN8x9.out⟩
                · skip
                  have hb : b4 = true := getB (l := [b0, b1, b2, b3, b4, b5, b6, b7, b8, b9, b10, b11, b12]) (ready_dep hi rfl 4 (by kernel_rfl)) rfl
                  have Hb := hide hb
                  obtain ⟨v0, v1, hxe, hv0, hv1⟩ := HF4.out hb
                  clear hb
                  subst hxe
                  clear hi
                  refine wpOp_step rfl (fun K hK => ?_)
                  go_simp
                  refine hK _ _ ?_
                  clear hK K
                  exact ⟨b0, b1, b2, b3, b4, b5, b6, true, b8, b9, b10, b11, b12, x8_0, x8_1, x8_2, x8_3, .tuple #[v0, v1, .int .i64 0], x8_5, x8_6, .int .i64 0, x8_8, x8_9, x8_12, rfl, rfl, hup, HF0.out, HF1.out, HF2.out, HF3.out, HF4.out, HF5.out, HF6.out, (fun _ => rfl), HF8.out, HF9.out, HF10.out, HF11.out, HF12.out, HN8x9.out⟩
                · skip
                  have hn := ready_not hi
                  have hst10 : b10 = false := by
                    cases e : b10 with
                    | false => rfl
                    | true => have h5 := (HF10.out e).1; rw [h5] at hn; cases hn
                  have Hst10 := hide hst10
                  clear hst10
                  clear hn
                  clear hi
                  have hsz := hup.size
                  have hupA := (Up.refl W).alloc (.cells #[.bool false, .slice none 0 0] 24)
                  refine wpOp_step rfl (fun K hK => ?_)
                  go_simp
                  refine hK _ _ ?_
                  clear hK K
                  exact ⟨b0, b1, b2, b3, b4, b5, b6, b7, true, b9, b10, b11, b12, x8_0, x8_1, x8_2, x8_3, x8_4, x8_5, x8_6, x8_7, .pointer (some ⟨W.heap.size, 0, none⟩), x8_9, x8_12, rfl, rfl, hup.trans hupA, (fun h => (HF0.out h).up hupA), (fun h => (HF1.out h).up hupA), (fun h => (HF2.out h).up hupA), (fun h => by obtain ⟨q0, q1, rq, r0, r1⟩ := HF3.out h; exact ⟨q0, q1, rq, r0.up hupA, r1.up hupA⟩), (fun h => by obtain ⟨q0, q1, rq, r0, r1⟩ := HF4.out h; exact ⟨q0, q1, rq, r0.up hupA, r1.up hupA⟩), (fun h => (HF5.out h).up hupA), (fun h => (HF6.out h).up hupA), HF7.out, (fun _ => by rw [Hst10.out]; exact Box.new _ W _ hsz), (fun h => (HF9.out h).up hupA), (fun h => ⟨rfl, (HF10.out h).2⟩), HF11.out, HF12.out, (fun _ h => (HF9.out h).ne_new.symm)⟩
                · skip
                  have hn := ready_not hi
                  have hst11 : b11 = false := by
                    cases e : b11 with
                    | false => rfl
                    | true => have h5 := (HF11.out e).1; rw [h5] at hn; cases hn
                  have Hst11 := hide hst11
                  clear hst11
                  clear hn
                  clear hi
                  have hsz := hup.size
                  have hupA := (Up.refl W).alloc (.cells #[.bool false, .slice none 0 0] 24)
                  refine wpOp_step rfl (fun K hK => ?_)
                  go_simp
                  refine hK _ _ ?_
                  clear hK K
                  exact ⟨b0, b1, b2, b3, b4, b5, b6, b7, b8, true, b10, b11, b12, x8_0, x8_1, x8_2, x8_3, x8_4, x8_5, x8_6, x8_7, x8_8, .pointer (some ⟨W.heap.size, 0, none⟩), x8_12, rfl, rfl, hup.trans hupA, (fun h => (HF0.out h).up hupA), (fun h => (HF1.out h).up hupA), (fun h => (HF2.out h).up hupA), (fun h => by obtain ⟨q0, q1, rq, r0, r1⟩ := HF3.out h; exact ⟨q0, q1, rq, r0.up hupA, r1.up hupA⟩), (fun h => by obtain ⟨q0, q1, rq, r0, r1⟩ := HF4.out h; exact ⟨q0, q1, rq, r0.up hupA, r1.up hupA⟩), (fun h => (HF5.out h).up hupA), (fun h => (HF6.out h).up hupA), HF7.out, (fun h => (HF8.out h).up hupA), (fun _ => by rw [Hst11.out]; exact Box.new _ W _ hsz), HF10.out, (fun h => ⟨rfl, (HF11.out h).2⟩), HF12.out, (fun h _ => (HF8.out h).ne_new)⟩
                · skip
                  have hb2 : b8 = true := getB (l := [b0, b1, b2, b3, b4, b5, b6, b7, b8, b9, b10, b11, b12]) (ready_dep hi rfl 8 (by kernel_rfl)) rfl
                  have hb1 : b5 = true := getB (l := [b0, b1, b2, b3, b4, b5, b6, b7, b8, b9, b10, b11, b12]) (ready_dep hi rfl 5 (by kernel_rfl)) rfl
                  clear hi
                  obtain ⟨s9, A9, n9, c9, hxc⟩ := (HF5.out hb1).agg
                  subst hxc
                  obtain ⟨g, s8, A8, n8, c8, hxb, hgB, hbk, _⟩ := HF8.out hb2
                  subst hxb
                  have f1 := hbk.cell (i := 0) rfl
                  have f2 := hbk.cell (i := 1) rfl
                  have f3 := hbk.frozen 0
                  have f4 := hbk.frozen 1
                  have Hb1 := hide hb1
                  have Hb2 := hide hb2
                  have hsz := hup.size
                  clear hb1 hb2
                  refine wpOp_step rfl (fun K hK => ?_)
                  go_simp
                  refine hK _ _ ?_
                  clear hK K
                  exact ⟨b0, b1, b2, b3, b4, b5, b6, b7, b8, b9, true, b11, b12, x8_0, x8_1, x8_2, x8_3, x8_4, .agg #[.bool s9, .slice A9 n9 c9], x8_6, x8_7, .pointer (some ⟨g, 0, none⟩), x8_9, x8_12, rfl, rfl, hup.two (g := g) hgB _ _, (fun h => (HF0.out h).boxed hbk _ _), (fun h => (HF1.out h).boxed hbk _ _), (fun h => (HF2.out h).boxed hbk _ _), (fun h => by obtain ⟨q0, q1, rq, r0, r1⟩ := HF3.out h; exact ⟨q0, q1, rq, r0.boxed hbk _ _, r1.boxed hbk _ _⟩), (fun h => by obtain ⟨q0, q1, rq, r0, r1⟩ := HF4.out h; exact ⟨q0, q1, rq, r0.boxed hbk _ _, r1.boxed hbk _ _⟩), (fun h => (HF5.out h).boxed hbk _ _), (fun h => (HF6.out h).boxed hbk _ _), HF7.out, (fun _ => hbk.fill hgB), (fun h => (HF9.out h).far ((HN8x9.out Hb2.out h).symm) _ _), (fun _ => ⟨Hb2.out, Hb1.out⟩), HF11.out, HF12.out, HN8x9.out⟩
                · skip
                  have hb2 : b9 = true := getB (l := [b0, b1, b2, b3, b4, b5, b6, b7, b8, b9, b10, b11, b12]) (ready_dep hi rfl 9 (by kernel_rfl)) rfl
                  have hb1 : b6 = true := getB (l := [b0, b1, b2, b3, b4, b5, b6, b7, b8, b9, b10, b11, b12]) (ready_dep hi rfl 6 (by kernel_rfl)) rfl
                  clear hi
                  obtain ⟨s9, A9, n9, c9, hxc⟩ := (HF6.out hb1).agg
                  subst hxc
                  obtain ⟨g, s8, A8, n8, c8, hxb, hgB, hbk, _⟩ := HF9.out hb2
                  subst hxb
                  have f1 := hbk.cell (i := 0) rfl
                  have f2 := hbk.cell (i := 1) rfl
                  have f3 := hbk.frozen 0
                  have f4 := hbk.frozen 1
                  have Hb1 := hide hb1
                  have Hb2 := hide hb2
                  have hsz := hup.size
                  clear hb1 hb2
                  refine wpOp_step rfl (fun K hK => ?_)
                  go_simp
                  refine hK _ _ ?_
                  clear hK K
                  exact ⟨b0, b1, b2, b3, b4, b5, b6, b7, b8, b9, b10, true, b12, x8_0, x8_1, x8_2, x8_3, x8_4, x8_5, .agg #[.bool s9, .slice A9 n9 c9], x8_7, x8_8, .pointer (some ⟨g, 0, none⟩), x8_12, rfl, rfl, hup.two (g := g) hgB _ _, (fun h => (HF0.out h).boxed hbk _ _), (fun h => (HF1.out h).boxed hbk _ _), (fun h => (HF2.out h).boxed hbk _ _), (fun h => by obtain ⟨q0, q1, rq, r0, r1⟩ := HF3.out h; exact ⟨q0, q1, rq, r0.boxed hbk _ _, r1.boxed hbk _ _⟩), (fun h => by obtain ⟨q0, q1, rq, r0, r1⟩ := HF4.out h; exact ⟨q0, q1, rq, r0.boxed hbk _ _, r1.boxed hbk _ _⟩), (fun h => (HF5.out h).boxed hbk _ _), (fun h => (HF6.out h).boxed hbk _ _), HF7.out, (fun h => (HF8.out h).far (HN8x9.out h Hb2.out) _ _), (fun _ => hbk.fill hgB), HF10.out, (fun _ => ⟨Hb2.out, Hb1.out⟩), HF12.out, HN8x9.out⟩
                · skip
                  have hb : b7 = true := getB (l := [b0, b1, b2, b3, b4, b5, b6, b7, b8, b9, b10, b11, b12]) (ready_dep hi rfl 7 (by kernel_rfl)) rfl
                  have hx := hide (HF7.out hb)
                  clear hb
                  clear hi
                  refine wpOp_step rfl (fun K hK => ?_)
                  go_simp
                  refine hK _ _ ?_
                  clear hK K
                  exact ⟨b0, b1, b2, b3, b4, b5, b6, b7, b8, b9, b10, b11, true, x8_0, x8_1, x8_2, x8_3, x8_4, x8_5, x8_6, x8_7, x8_8, x8_9, x8_7, rfl, rfl, hup, HF0.out, HF1.out, HF2.out, HF3.out, HF4.out, HF5.out, HF6.out, HF7.out, HF8.out, HF9.out, HF10.out, HF11.out, (fun _ => hx.out), HN8x9.out⟩
              case hQ =>
                rintro l a W8_ ⟨b0, b1, b2, b3, b4, b5, b6, b7, b8, b9, b10, b11, b12, x8_0, x8_1, x8_2, x8_3, x8_4, x8_5, x8_6, x8_7, x8_8, x8_9, x8_12, rfl, rfl, hup, hF0, hF1, hF2, hF3, hF4, hF5, hF6, hF7, hF8, hF9, hF10, hF11, hF12, hN8x9⟩ hall
                have hb0 : b0 = true := getB (l := [b0, b1, b2, b3, b4, b5, b6, b7, b8, b9, b10, b11, b12]) (hall 0 (by decide)) rfl
                have hb1 : b1 = true := getB (l := [b0, b1, b2, b3, b4, b5, b6, b7, b8, b9, b10, b11, b12]) (hall 1 (by decide)) rfl
                have hb2 : b2 = true := getB (l := [b0, b1, b2, b3, b4, b5, b6, b7, b8, b9, b10, b11, b12]) (hall 2 (by decide)) rfl
                have hb3 : b3 = true := getB (l := [b0, b1, b2, b3, b4, b5, b6, b7, b8, b9, b10, b11, b12]) (hall 3 (by decide)) rfl
                have hb4 : b4 = true := getB (l := [b0, b1, b2, b3, b4, b5, b6, b7, b8, b9, b10, b11, b12]) (hall 4 (by decide)) rfl
                have hb5 : b5 = true := getB (l := [b0, b1, b2, b3, b4, b5, b6, b7, b8, b9, b10, b11, b12]) (hall 5 (by decide)) rfl
                have hb6 : b6 = true := getB (l := [b0, b1, b2, b3, b4, b5, b6, b7, b8, b9, b10, b11, b12]) (hall 6 (by decide)) rfl
                have hb7 : b7 = true := getB (l := [b0, b1, b2, b3, b4, b5, b6, b7, b8, b9, b10, b11, b12]) (hall 7 (by decide)) rfl
                have hb8 : b8 = true := getB (l := [b0, b1, b2, b3, b4, b5, b6, b7, b8, b9, b10, b11, b12]) (hall 8 (by decide)) rfl
                have hb9 : b9 = true := getB (l := [b0, b1, b2, b3, b4, b5, b6, b7, b8, b9, b10, b11, b12]) (hall 9 (by decide)) rfl
                have hb10 : b10 = true := getB (l := [b0, b1, b2, b3, b4, b5, b6, b7, b8, b9, b10, b11, b12]) (hall 10 (by decide)) rfl
                have hb11 : b11 = true := getB (l := [b0, b1, b2, b3, b4, b5, b6, b7, b8, b9, b10, b11, b12]) (hall 11 (by decide)) rfl
                have hb12 : b12 = true := getB (l := [b0, b1, b2, b3, b4, b5, b6, b7, b8, b9, b10, b11, b12]) (hall 12 (by decide)) rfl
                subst hb0 hb1 hb2 hb3 hb4 hb5 hb6 hb7 hb8 hb9 hb10 hb11 hb12
                clear hall
                have m0 := hF0 rfl
                have m1 := hF1 rfl
                have m2 := hF2 rfl
                have m3 := hF3 rfl
                have m4 := hF4 rfl
                have m5 := hF5 rfl
                have m6 := hF6 rfl
                have m7 := hF7 rfl
                have m8 := hF8 rfl
                have m9 := hF9 rfl
                have m12 := hF12 rfl
                clear hF0 hF1 hF2 hF3 hF4 hF5 hF6 hF7 hF8 hF9 hF10 hF11 hF12 hN8x9
                obtain ⟨gq2, sq2, Aq2, nq2, cq2, rfl, hgq2, hkq2, heq2⟩ := m8
                obtain rfl := heq2 rfl
                clear heq2 hgq2
                have hiq2 := m5
                obtain ⟨gr2, sr2, Ar2, nr2, cr2, rfl, hgr2, hkr2, her2⟩ := m9
                obtain rfl := her2 rfl
                clear her2 hgr2
                have hir2 := m6
                obtain rfl := m7
                obtain rfl := m12
                clear m0 m1 m2 m3 m4 m5 m6
                have hka := hka.up hup
                have hkb := hkb.up hup
                have hkg := hkg.up hup
                have hkq1 := hkq1.up hup
                have hkr1 := hkr1.up hup
                have hia := hia.up hup
                have hib := hib.up hup
                have hig := hig.up hup
                have hiq1 := hiq1.up hup
                have hir1 := hir1.up hup
                have hupw := hupw.trans hup
                clear hup
                have hkaa := hka.cell (i := 0) rfl
                have hkab := hka.cell (i := 1) rfl
                have hkal := hka.lt
                have hkba := hkb.cell (i := 0) rfl
                have hkbb := hkb.cell (i := 1) rfl
                have hkbl := hkb.lt
                have hkga := hkg.cell (i := 0) rfl
                have hkgb := hkg.cell (i := 1) rfl
                have hkgl := hkg.lt
                have hkq1a := hkq1.cell (i := 0) rfl
                have hkq1b := hkq1.cell (i := 1) rfl
                have hkq1l := hkq1.lt
                have hkr1a := hkr1.cell (i := 0) rfl
                have hkr1b := hkr1.cell (i := 1) rfl
                have hkr1l := hkr1.lt
                have hkq2a := hkq2.cell (i := 0) rfl
                have hkq2b := hkq2.cell (i := 1) rfl
                have hkq2l := hkq2.lt
                have hkr2a := hkr2.cell (i := 0) rfl
                have hkr2b := hkr2.cell (i := 1) rfl
                have hkr2l := hkr2.lt
                go_wp2_with fail
                clear hkaa hkab hkal hkba hkbb hkbl hkga hkgb hkgl hkq1a hkq1b hkq1l hkr1a hkr1b hkr1l hkq2a hkq2b hkq2l hkr2a hkr2b hkr2l
                have hz1 : ((x.tmod gd).sign == 0) = true := by rw [gcd_left Hd]; rfl
                have hz2 : ((y.tmod gd).sign == 0) = true := by rw [gcd_right Hd]; rfl
                have ht1 : (x.tmod gd).natAbs < top300 := by rw [gcd_left Hd]; have := bas_pos 33; simp [top300]; omega
                have ht2 : (y.tmod gd).natAbs < top300 := by rw [gcd_right Hd]; have := bas_pos 33; simp [top300]; omega
                refine (signI_any 0 _ (x.tmod gd) _ hir1 ht1).mono ?_
                rintro e w9_ ⟨rfl, hup⟩
                have hka := hka.up hup
                have hkb := hkb.up hup
                have hkg := hkg.up hup
                have hkq1 := hkq1.up hup
                have hkr1 := hkr1.up hup
                have hkq2 := hkq2.up hup
                have hkr2 := hkr2.up hup
                have hia := hia.up hup
                have hib := hib.up hup
                have hig := hig.up hup
                have hiq1 := hiq1.up hup
                have hir1 := hir1.up hup
                have hiq2 := hiq2.up hup
                have hir2 := hir2.up hup
                have hupw := hupw.trans hup
                clear hup
                have hkaa := hka.cell (i := 0) rfl
                have hkab := hka.cell (i := 1) rfl
                have hkal := hka.lt
                have hkba := hkb.cell (i := 0) rfl
                have hkbb := hkb.cell (i := 1) rfl
                have hkbl := hkb.lt
                have hkga := hkg.cell (i := 0) rfl
                have hkgb := hkg.cell (i := 1) rfl
                have hkgl := hkg.lt
                have hkq1a := hkq1.cell (i := 0) rfl
                have hkq1b := hkq1.cell (i := 1) rfl
                have hkq1l := hkq1.lt
                have hkr1a := hkr1.cell (i := 0) rfl
                have hkr1b := hkr1.cell (i := 1) rfl
                have hkr1l := hkr1.lt
                have hkq2a := hkq2.cell (i := 0) rfl
                have hkq2b := hkq2.cell (i := 1) rfl
                have hkq2l := hkq2.lt
                have hkr2a := hkr2.cell (i := 0) rfl
                have hkr2b := hkr2.cell (i := 1) rfl
                have hkr2l := hkr2.lt
                go_wp2_with fail
                clear hkaa hkab hkal hkba hkbb hkbl hkga hkgb hkgl hkq1a hkq1b hkq1l hkr1a hkr1b hkr1l hkq2a hkq2b hkq2l hkr2a hkr2b hkr2l
                refine (signI_any 0 _ (y.tmod gd) _ hir2 ht2).mono ?_
                rintro e w10_ ⟨rfl, hup⟩
                have hka := hka.up hup
                have hkb := hkb.up hup
                have hkg := hkg.up hup
                have hkq1 := hkq1.up hup
                have hkr1 := hkr1.up hup
                have hkq2 := hkq2.up hup
                have hkr2 := hkr2.up hup
                have hia := hia.up hup
                have hib := hib.up hup
                have hig := hig.up hup
                have hiq1 := hiq1.up hup
                have hir1 := hir1.up hup
                have hiq2 := hiq2.up hup
                have hir2 := hir2.up hup
                have hupw := hupw.trans hup
                clear hup
                have hkaa := hka.cell (i := 0) rfl
                have hkab := hka.cell (i := 1) rfl
                have hkal := hka.lt
                have hkba := hkb.cell (i := 0) rfl
                have hkbb := hkb.cell (i := 1) rfl
                have hkbl := hkb.lt
                have hkga := hkg.cell (i := 0) rfl
                have hkgb := hkg.cell (i := 1) rfl
                have hkgl := hkg.lt
                have hkq1a := hkq1.cell (i := 0) rfl
                have hkq1b := hkq1.cell (i := 1) rfl
                have hkq1l := hkq1.lt
                have hkr1a := hkr1.cell (i := 0) rfl
                have hkr1b := hkr1.cell (i := 1) rfl
                have hkr1l := hkr1.lt
                have hkq2a := hkq2.cell (i := 0) rfl
                have hkq2b := hkq2.cell (i := 1) rfl
                have hkq2l := hkq2.lt
                have hkr2a := hkr2.cell (i := 0) rfl
                have hkr2b := hkr2.cell (i := 1) rfl
                have hkr2l := hkr2.lt
                go_wp2_with fail
                clear hkaa hkab hkal hkba hkbb hkbl hkga hkgb hkgl hkq1a hkq1b hkq1l hkr1a hkr1b hkr1l hkq2a hkq2b hkq2l hkr2a hkr2b hkr2l
                go_ret
                exact ⟨rfl, hupw⟩
      · skip
        have hn2I : decide ((nb : Int) ≤ 12) = false := by simp; omega
        clear hn2
        refine (few_any sa Aa ca na 12 _).mono ?_
        rintro e w3_ ⟨rfl, hup⟩
        have hka := hka.up hup
        have hkb := hkb.up hup
        have hia := hia.up hup
        have hib := hib.up hup
        have hupw := hupw.trans hup
        clear hup
        have hkaa := hka.cell (i := 0) rfl
        have hkab := hka.cell (i := 1) rfl
        have hkal := hka.lt
        have hkba := hkb.cell (i := 0) rfl
        have hkbb := hkb.cell (i := 1) rfl
        have hkbl := hkb.lt
        go_wp2_with fail
        clear hkaa hkab hkal hkba hkbb hkbl
        refine (few_any sb Ab cb nb 12 _).mono ?_
        rintro e w4_ ⟨rfl, hup⟩
        have hka := hka.up hup
        have hkb := hkb.up hup
        have hia := hia.up hup
        have hib := hib.up hup
        have hupw := hupw.trans hup
        clear hup
        have hkaa := hka.cell (i := 0) rfl
        have hkab := hka.cell (i := 1) rfl
        have hkal := hka.lt
        have hkba := hkb.cell (i := 0) rfl
        have hkbb := hkb.cell (i := 1) rfl
        have hkbl := hkb.lt
        go_wp2_with fail
        clear hkaa hkab hkal hkba hkbb hkbl
        refine (awake_any _).mono ?_
        rintro e w5_ ⟨rfl, hup⟩
        have hka := hka.up hup
        have hkb := hkb.up hup
        have hia := hia.up hup
        have hib := hib.up hup
        have hupw := hupw.trans hup
        clear hup
        have hkaa := hka.cell (i := 0) rfl
        have hkab := hka.cell (i := 1) rfl
        have hkal := hka.lt
        have hkba := hkb.cell (i := 0) rfl
        have hkbb := hkb.cell (i := 1) rfl
        have hkbl := hkb.lt
        go_wp2_with fail
        clear hkaa hkab hkal hkba hkbb hkbl
        go_ret
        exact ⟨rfl, hupw⟩
    · skip
      have hn1I : decide ((na : Int) ≤ 12) = false := by simp; omega
      clear hn1
      refine (awake_any _).mono ?_
      rintro e w2_ ⟨rfl, hup⟩
      have hka := hka.up hup
      have hkb := hkb.up hup
      have hia := hia.up hup
      have hib := hib.up hup
      have hupw := hupw.trans hup
      clear hup
      have hkaa := hka.cell (i := 0) rfl
      have hkab := hka.cell (i := 1) rfl
      have hkal := hka.lt
      have hkba := hkb.cell (i := 0) rfl
      have hkbb := hkb.cell (i := 1) rfl
      have hkbl := hkb.lt
      go_wp2_with fail
      clear hkaa hkab hkal hkba hkbb hkbl
      refine (few_any sa Aa ca na 12 _).mono ?_
      rintro e w3_ ⟨rfl, hup⟩
      have hka := hka.up hup
      have hkb := hkb.up hup
      have hia := hia.up hup
      have hib := hib.up hup
      have hupw := hupw.trans hup
      clear hup
      have hkaa := hka.cell (i := 0) rfl
      have hkab := hka.cell (i := 1) rfl
      have hkal := hka.lt
      have hkba := hkb.cell (i := 0) rfl
      have hkbb := hkb.cell (i := 1) rfl
      have hkbl := hkb.lt
      go_wp2_with fail
      clear hkaa hkab hkal hkba hkbb hkbl
      refine (awake_any _).mono ?_
      rintro e w4_ ⟨rfl, hup⟩
      have hka := hka.up hup
      have hkb := hkb.up hup
      have hia := hia.up hup
      have hib := hib.up hup
      have hupw := hupw.trans hup
      clear hup
      have hkaa := hka.cell (i := 0) rfl
      have hkab := hka.cell (i := 1) rfl
      have hkal := hka.lt
      have hkba := hkb.cell (i := 0) rfl
      have hkbb := hkb.cell (i := 1) rfl
      have hkbl := hkb.lt
      go_wp2_with fail
      clear hkaa hkab hkal hkba hkbb hkbl
      go_ret
      exact ⟨rfl, hupw⟩

set_option maxRecDepth 100000 in
theorem lifted_integerGcd (os : Os) (started : os.Started) (H : Type) (enc : TypeId × Value → H) :
    ReturnsInHanded {} Try.checked os 8 .any (Rows.integerGcdSpec.pre6 enc Try.prog Try.f8 Rows.integerGcdRow.domain false) (Rows.integerGcdSpec.post enc Try.prog Try.f8 false true false false) := by
  refine returnsInHanded_of_change (C := Try.checked) ownK started (by kernel_rfl) Try.func8
    (ChangeSpec.witness6 (enc := enc) (C := Try.checked) false ⟨#[], #[.agg #[.bool false, .slice none 0 0], .agg #[.bool false, .slice none 0 0]], []⟩ 8 (by kernel_rfl) (by kernel_rfl) (by kernel_rfl) (by kernel_rfl)) ?_
  intro W base args ds gs before hval0 hW hcnd _
  have hval : ∀ (j : Nat) t v, Try.f8.params[j]? = some t → args[j]? = some v → Value.okWide Try.prog W .any base t v := hval0
  have hW' := hW
  obtain ⟨p, q, hA0, hV, rfl, hfz, hnd⟩ := hW
  have hA : DataW.TrodAll enc Try.prog W 0 (fun _ => true) true Try.f8.params.toList args.toList ds p := hA0
  rw [Try.params8] at hA hval
  obtain ⟨v0, vs0, d0, ds0, p0, q0, hargs, rfl, rfl, h0, r0⟩ := trodAll_cons hA
  obtain ⟨v1, vs1, d1, ds1, p1, q1, rfl, rfl, rfl, h1, r1⟩ := trodAll_cons r0
  obtain ⟨rfl, rfl, rfl⟩ := trodAll_nil r1
  obtain rfl : args = #[v0, v1] := by cases args; simp_all
  obtain ⟨rfl, rfl⟩ := trodVars_none hV
  have k0 := h0
  have lt0 : ∀ x ∈ p0, x.block < W.heap.size := by obtain ⟨m, hm⟩ := k0; exact DataW.trod_lt m _ _ _ hm
  have w0 : RawIn W v0 := raw_open Try.underlying37 (by kernel_rfl) (by kernel_rfl) (by kernel_rfl) (by kernel_rfl) (hval 0 37 v0 rfl rfl) h0
  have k1 := h1
  have lt1 : ∀ x ∈ p1, x.block < W.heap.size := by obtain ⟨m, hm⟩ := k1; exact DataW.trod_lt m _ _ _ hm
  have w1 : RawIn W v1 := raw_open Try.underlying37 (by kernel_rfl) (by kernel_rfl) (by kernel_rfl) (by kernel_rfl) (hval 1 37 v1 rfl rfl) h1
  clear hA0 hval0
  refine (gcdW v0 v1 W w0 w1).mono fun e W' ⟨he, bel0⟩ => ?_
  have bel : Below W.heap.size W W' := bel0
  subst he
  exact ⟨_, rfl, _, _, _, [], _, [], hW', trodAll_mk1 (shut_bool Try.underlying4 _), (trodAll_cons_mk (Below.trod laidOut (by kernel_rfl) (of_decide_eq_true (by kernel_rfl)) k0 bel lt0) (trodAll_cons_mk (Below.trod laidOut (by kernel_rfl) (of_decide_eq_true (by kernel_rfl)) k1 bel lt1) trodAll_mk0)), rfl, bel.frame _, fun h => by cases h⟩

theorem over_integerGcd : Rows.integerGcdRow.holds Try.pinned (OpenSpec.ofChange Rows.integerGcdSpec) :=
  OpenClaim.holds_of_wide 8 Try.f8 rfl rfl rfl rfl rfl rfl rfl ⟨rfl, rfl, rfl, rfl, rfl⟩ rfl rfl rfl rfl rfl (by kernel_rfl) Try.func8 (by kernel_rfl)
    (of_decide_eq_true (by kernel_rfl)) (by unfold Func.isWrapper; first | (rw [if_pos (by decide +kernel)]; kernel_rfl) | (rw [if_neg (by decide +kernel)]; exact ⟨rfl, rfl⟩))
    (fun os started H enc _ => lifted_integerGcd os started H enc)

theorem integerGcd_holds : Rows.IntegerGcdSaid := over_integerGcd
end Go.Proofs.Ytbfbemgfdcehfaa
