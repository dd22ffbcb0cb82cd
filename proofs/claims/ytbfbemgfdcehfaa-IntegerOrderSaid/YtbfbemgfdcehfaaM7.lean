/- For every three drafts, Cmp compares the first two as the reference does, in both directions, and does not change if the third is subtracted from both. No condition. -/
import Derived.Test.YtbfbemgfdcehfaaInv2
import Derived.Test.YtbfbemgfdcehfaaH1
import Derived.Test.YtbfbemgfdcehfaaV2
namespace Go.Proofs.Ytbfbemgfdcehfaa
open Go.RowKit

open Go.ChangeShapes Go.WideShapes Go.ChangeAt

theorem cmpZ_neg (x y : Int) : cmpZ y x = -cmpZ x y := by unfold cmpZ; (repeat' split) <;> omega
theorem cmpZ_self (x : Int) : cmpZ x x = 0 := by unfold cmpZ; (repeat' split) <;> omega
theorem cmpZ_sub (x y z : Int) : cmpZ (x - z) (y - z) = cmpZ x y := by unfold cmpZ; (repeat' split) <;> omega
theorem cmpZ_bd (x y : Int) : -1 ≤ cmpZ x y ∧ cmpZ x y ≤ 1 := by unfold cmpZ; (repeat' split) <;> omega
theorem cmpA (v v' : Value) (x y r : Int) (w : World) (hv : IsInt 0 w v x) (hv' : IsInt 0 w v' y) (hx : x.natAbs < top300) (hy : y.natAbs < top300) (Hr : Hid (r = cmpZ x y)) : Calls Try.prog 20 #[v, v'] w fun e w' => e = .returned (.int .i64 r) ∧ Up w w' := by
  rw [Hr.out]; exact cmpI_any 0 0 v v' x y w hv hv' hx hy
theorem rcmpA (v v' : Value) (x y r : Int) (w : World) (hv : IsInt 0 w v x) (hv' : IsInt 0 w v' y) (hx : x.natAbs < top300) (hy : y.natAbs < top300) (Hr : Hid (r = cmpZ x y)) : Calls Try.prog 31 #[v, v'] w fun e w' => e = .returned (.int .i64 r) ∧ Up w w' := by
  rw [Hr.out]; exact rcmpI_any 0 0 v v' x y w hv hv' hx hy

set_option maxRecDepth 100000 in
set_option maxHeartbeats 16000000 in
theorem orderW (v0 v1 v2 : Value) (w : World) (h0 : RawIn w v0) (h1 : RawIn w v1) (h2 : RawIn w v2) : Calls Try.prog 9 #[v0, v1, v2] w fun e w' => e = .returned (.bool true) ∧ Up w w' := by
  have g0 := h0
  have g1 := h1
  have g2 := h2
  obtain ⟨s, A, n, c, l, rfl, hl, hw, Hn, hn, hc⟩ := h0
  obtain ⟨t, C, m, d, k, rfl, hm, hw', Hm, hmm, hd⟩ := h1
  obtain ⟨u, E, p, f, j, rfl, hm', hw'', Hm', hmm', hd'⟩ := h2
  clear hl hw Hn hn hc hm hw' Hm hmm hd hm' hw'' Hm' hmm' hd'
  obtain ⟨w0, hw0⟩ : ∃ w0, w0 = (((w.alloc (.cells #[.bool s, .slice A n c] 37)).alloc (.cells #[.bool t, .slice C m d] 37)).alloc (.cells #[.bool u, .slice E p f] 37)) := ⟨_, rfl⟩
  have hb1 : Bk w0 (w.heap.size) 37 #[.bool s, .slice A n c] := by
    have := ((Bk.new w 37 #[.bool s, .slice A n c]).alloc (.cells #[.bool t, .slice C m d] 37)).alloc (.cells #[.bool u, .slice E p f] 37)
    rw [hw0]; simpa using this
  have hb2 : Bk w0 (w.heap.size + 1) 37 #[.bool t, .slice C m d] := by
    have := (Bk.new (w.alloc (.cells #[.bool s, .slice A n c] 37)) 37 #[.bool t, .slice C m d]).alloc (.cells #[.bool u, .slice E p f] 37)
    rw [hw0]; simpa using this
  have hb3 : Bk w0 (w.heap.size + 1 + 1) 37 #[.bool u, .slice E p f] := by
    have := Bk.new ((w.alloc (.cells #[.bool s, .slice A n c] 37)).alloc (.cells #[.bool t, .slice C m d] 37)) 37 #[.bool u, .slice E p f]
    rw [hw0]; simpa using this
  have hup0 : Up w w0 := by rw [hw0]; exact (((Up.refl w).alloc _).alloc _).alloc _
  have hsz0 : w.heap.size + 3 ≤ w0.heap.size := by rw [hw0]; simp
  have Hw0 := hide hw0
  clear hw0
  have e1a := hb1.cell (i := 0) rfl
  have e1b := hb1.cell (i := 1) rfl
  have e2a := hb2.cell (i := 0) rfl
  have e2b := hb2.cell (i := 1) rfl
  have e3a := hb3.cell (i := 0) rfl
  have e3b := hb3.cell (i := 1) rfl
  have q0 := g0.up hup0
  have q1 := g1.up hup0
  have q2 := g2.up hup0
  go_enter Try.func9, Try.ntmps9
  go_wp2_with fail
  rw [← Hw0.out]
  have hupw := hup0
  refine region_inv (fun l a W => ∃ (b0 b1 b2 b3 b4 b5 b6 b7 b8 b9 b10 b11 : Bool) (x1_0 x1_1 x1_2 x1_3 x1_4 x1_5 x1_6 x1_7 x1_8 : Value), l = #[b0, b1, b2, b3, b4, b5, b6, b7, b8, b9, b10, b11] ∧ a = { tmps := #[.agg #[.bool s, .slice A n c], .agg #[.bool t, .slice C m d], .agg #[.bool u, .slice E p f], .pointer (some ⟨w.heap.size, 0, none⟩), .pointer (some ⟨w.heap.size + 1, 0, none⟩), .pointer (some ⟨w.heap.size + 1 + 1, 0, none⟩), .bool false, x1_6, x1_7, x1_8, undef, undef, undef, undef, undef, x1_0, x1_1, x1_2, x1_3, x1_4, x1_5, undef, undef, undef, undef, undef, undef, undef, undef, undef, undef, undef, undef, undef, undef, undef, undef, undef, undef, undef, undef, undef, undef, undef, undef, undef, undef, undef, undef, undef, undef, undef, undef, undef, undef, undef, undef, undef, undef, undef, undef, undef, undef, undef, undef, undef, undef, undef, undef, undef, undef, undef, undef, undef, undef, undef, undef, undef, undef, undef], defers := [] } ∧ Up w0 W ∧ (b0 = true → x1_0 = .agg #[.bool s, .slice A n c]) ∧ (b1 = true → Got W x1_1) ∧ (b2 = true → x1_2 = .agg #[.bool t, .slice C m d]) ∧ (b3 = true → Got W x1_3) ∧ (b4 = true → x1_4 = .agg #[.bool u, .slice E p f]) ∧ (b5 = true → Got W x1_5) ∧ (b6 = true → Box (w0.heap.size) W x1_6 b9 x1_1) ∧ (b7 = true → Box (w0.heap.size) W x1_7 b10 x1_3) ∧ (b8 = true → Box (w0.heap.size) W x1_8 b11 x1_5) ∧ (b9 = true → b6 = true ∧ b1 = true) ∧ (b10 = true → b7 = true ∧ b3 = true) ∧ (b11 = true → b8 = true ∧ b5 = true) ∧ (b6 = true → b7 = true → x1_6 ≠ x1_7) ∧ (b6 = true → b8 = true → x1_6 ≠ x1_8) ∧ (b7 = true → b8 = true → x1_7 ≠ x1_8)) (by kernel_rfl) (by kernel_rfl) ?hs ?h0 ?hstep ?hQ
  case hs => rintro l a W ⟨b0, b1, b2, b3, b4, b5, b6, b7, b8, b9, b10, b11, x1_0, x1_1, x1_2, x1_3, x1_4, x1_5, x1_6, x1_7, x1_8, rfl, rfl, hup, hF0, hF1, hF2, hF3, hF4, hF5, hF6, hF7, hF8, hF9, hF10, hF11, hN6x7, hN6x8, hN7x8⟩; rfl
  case h0 => exact ⟨false, false, false, false, false, false, false, false, false, false, false, false, undef, undef, undef, undef, undef, undef, undef, undef, undef, rfl, rfl, (Up.refl w0).drew, (fun h => by cases h), (fun h => by cases h), (fun h => by cases h), (fun h => by cases h), (fun h => by cases h), (fun h => by cases h), (fun h => by cases h), (fun h => by cases h), (fun h => by cases h), (fun h => by cases h), (fun h => by cases h), (fun h => by cases h), (fun h => by cases h), (fun h => by cases h), (fun h => by cases h)⟩
  case hstep =>
    rintro l a W ⟨b0, b1, b2, b3, b4, b5, b6, b7, b8, b9, b10, b11, x1_0, x1_1, x1_2, x1_3, x1_4, x1_5, x1_6, x1_7, x1_8, rfl, rfl, hup, hF0, hF1, hF2, hF3, hF4, hF5, hF6, hF7, hF8, hF9, hF10, hF11, hN6x7, hN6x8, hN7x8⟩ i hi
    have hlt : i < 12 := ready_lt hi
    have HF0 := hide hF0
    have HF1 := hide hF1
    have HF2 := hide hF2
    have HF3 := hide hF3
    have HF4 := hide hF4
    have HF5 := hide hF5
    have HF6 := hide hF6
    have HF7 := hide hF7
    have HF8 := hide hF8
    have HF9 := hide hF9
    have HF10 := hide hF10
    have HF11 := hide hF11
    have HN6x7 := hide hN6x7
    have HN6x8 := hide hN6x8
    have HN7x8 := hide hN7x8
    clear hF0 hF1 hF2 hF3 hF4 hF5 hF6 hF7 hF8 hF9 hF10 hF11 hN6x7 hN6x8 hN7x8
    have hcase : i = 0 ∨ i = 1 ∨ i = 2 ∨ i = 3 ∨ i = 4 ∨ i = 5 ∨ i = 6 ∨ i = 7 ∨ i = 8 ∨ i = 9 ∨ i = 10 ∨ i = 11 := by omega
    clear hlt
    rcases hcase with rfl | rfl | rfl | rfl | rfl | rfl | rfl | rfl | rfl | rfl | rfl | rfl
    · skip
      have k1 : W.cell? ⟨w.heap.size, 0, none⟩ = some (.bool s) := hup.keep e1a
      have k2 : W.cell? ⟨w.heap.size, 1, none⟩ = some (.slice A n c) := hup.keep e1b
      clear hi
      refine wpOp_step rfl (fun K hK => ?_)
      go_simp
      refine hK _ _ ?_
      clear hK K
      exact ⟨true, b1, b2, b3, b4, b5, b6, b7, b8, b9, b10, b11, .agg #[.bool s, .slice A n c], x1_1, x1_2, x1_3, x1_4, x1_5, x1_6, x1_7, x1_8, rfl, rfl, hup, (fun _ => rfl), HF1.out, HF2.out, HF3.out, HF4.out, HF5.out, HF6.out, HF7.out, HF8.out, HF9.out, HF10.out, HF11.out, HN6x7.out, HN6x8.out, HN7x8.out⟩
    · skip
      have hb : b0 = true := getB (l := [b0, b1, b2, b3, b4, b5, b6, b7, b8, b9, b10, b11]) (ready_dep hi rfl 0 (by kernel_rfl)) rfl
      have hx := HF0.out hb
      subst hx
      have hn := ready_not hi
      have hst9 : b9 = false := by
        cases e : b9 with
        | false => rfl
        | true => have h5 := (HF9.out e).2; rw [h5] at hn; cases hn
      have Hst9 := hide hst9
      clear hst9
      clear hn
      clear hi
      refine wpOp_step rfl (fun K hK => ?_)
      go_simp
      refine (madeR _ _ (q0.up hup)).mono ?_
      rintro e w1 ⟨v1, z1, rfl, hv1, hz1, hup1⟩
      go_wp2_with fail
      exact ⟨b0, true, b2, b3, b4, b5, b6, b7, b8, b9, b10, b11, .agg #[.bool s, .slice A n c], v1, x1_2, x1_3, x1_4, x1_5, x1_6, x1_7, x1_8, rfl, rfl, hup.trans hup1, (fun _ => rfl), (fun _ => ⟨z1, hv1.mono (Nat.zero_le _), hz1⟩), HF2.out, (fun h => (HF3.out h).up hup1), HF4.out, (fun h => (HF5.out h).up hup1), (fun h => by rw [Hst9.out] at *; obtain ⟨g, s, A, n, c, h1, h2, h3, _⟩ := HF6.out h; exact ⟨g, s, A, n, c, h1, h2, h3.up hup1, fun h => by cases h⟩), (fun h => (HF7.out h).up hup1), (fun h => (HF8.out h).up hup1), (fun h => ⟨(HF9.out h).1, rfl⟩), HF10.out, HF11.out, HN6x7.out, HN6x8.out, HN7x8.out⟩
    · skip
      have k1 : W.cell? ⟨w.heap.size + 1, 0, none⟩ = some (.bool t) := hup.keep e2a
      have k2 : W.cell? ⟨w.heap.size + 1, 1, none⟩ = some (.slice C m d) := hup.keep e2b
      clear hi
      refine wpOp_step rfl (fun K hK => ?_)
      go_simp
      refine hK _ _ ?_
      clear hK K
      exact ⟨b0, b1, true, b3, b4, b5, b6, b7, b8, b9, b10, b11, x1_0, x1_1, .agg #[.bool t, .slice C m d], x1_3, x1_4, x1_5, x1_6, x1_7, x1_8, rfl, rfl, hup, HF0.out, HF1.out, (fun _ => rfl), HF3.out, HF4.out, HF5.out, HF6.out, HF7.out, HF8.out, HF9.out, HF10.out, HF11.out, HN6x7.out, HN6x8.out, HN7x8.out⟩
    · skip
      have hb : b2 = true := getB (l := [b0, b1, b2, b3, b4, b5, b6, b7, b8, b9, b10, b11]) (ready_dep hi rfl 2 (by kernel_rfl)) rfl
      have hx := HF2.out hb
      subst hx
      have hn := ready_not hi
      have hst10 : b10 = false := by
        cases e : b10 with
        | false => rfl
        | true => have h5 := (HF10.out e).2; rw [h5] at hn; cases hn
      have Hst10 := hide hst10
      clear hst10
      clear hn
      clear hi
      refine wpOp_step rfl (fun K hK => ?_)
      go_simp
      refine (madeR _ _ (q1.up hup)).mono ?_
      rintro e w1 ⟨v1, z1, rfl, hv1, hz1, hup1⟩
      go_wp2_with fail
      exact ⟨b0, b1, b2, true, b4, b5, b6, b7, b8, b9, b10, b11, x1_0, x1_1, .agg #[.bool t, .slice C m d], v1, x1_4, x1_5, x1_6, x1_7, x1_8, rfl, rfl, hup.trans hup1, HF0.out, (fun h => (HF1.out h).up hup1), (fun _ => rfl), (fun _ => ⟨z1, hv1.mono (Nat.zero_le _), hz1⟩), HF4.out, (fun h => (HF5.out h).up hup1), (fun h => (HF6.out h).up hup1), (fun h => by rw [Hst10.out] at *; obtain ⟨g, s, A, n, c, h1, h2, h3, _⟩ := HF7.out h; exact ⟨g, s, A, n, c, h1, h2, h3.up hup1, fun h => by cases h⟩), (fun h => (HF8.out h).up hup1), HF9.out, (fun h => ⟨(HF10.out h).1, rfl⟩), HF11.out, HN6x7.out, HN6x8.out, HN7x8.out⟩
    · skip
      have k1 : W.cell? ⟨w.heap.size + 1 + 1, 0, none⟩ = some (.bool u) := hup.keep e3a
      have k2 : W.cell? ⟨w.heap.size + 1 + 1, 1, none⟩ = some (.slice E p f) := hup.keep e3b
      clear hi
      refine wpOp_step rfl (fun K hK => ?_)
      go_simp
      refine hK _ _ ?_
      clear hK K
      exact ⟨b0, b1, b2, b3, true, b5, b6, b7, b8, b9, b10, b11, x1_0, x1_1, x1_2, x1_3, .agg #[.bool u, .slice E p f], x1_5, x1_6, x1_7, x1_8, rfl, rfl, hup, HF0.out, HF1.out, HF2.out, HF3.out, (fun _ => rfl), HF5.out, HF6.out, HF7.out, HF8.out, HF9.out, HF10.out, HF11.out, HN6x7.out, HN6x8.out, HN7x8.out⟩
    · skip
      have hb : b4 = true := getB (l := [b0, b1, b2, b3, b4, b5, b6, b7, b8, b9, b10, b11]) (ready_dep hi rfl 4 (by kernel_rfl)) rfl
      have hx := HF4.out hb
      subst hx
      have hn := ready_not hi
      have hst11 : b11 = false := by
        cases e : b11 with
        | false => rfl
        | true => have h5 := (HF11.out e).2; rw [h5] at hn; cases hn
      have Hst11 := hide hst11
      clear hst11
      clear hn
      clear hi
      refine wpOp_step rfl (fun K hK => ?_)
      go_simp
      refine (madeR _ _ (q2.up hup)).mono ?_
      rintro e w1 ⟨v1, z1, rfl, hv1, hz1, hup1⟩
      go_wp2_with fail
      exact ⟨b0, b1, b2, b3, b4, true, b6, b7, b8, b9, b10, b11, x1_0, x1_1, x1_2, x1_3, .agg #[.bool u, .slice E p f], v1, x1_6, x1_7, x1_8, rfl, rfl, hup.trans hup1, HF0.out, (fun h => (HF1.out h).up hup1), HF2.out, (fun h => (HF3.out h).up hup1), (fun _ => rfl), (fun _ => ⟨z1, hv1.mono (Nat.zero_le _), hz1⟩), (fun h => (HF6.out h).up hup1), (fun h => (HF7.out h).up hup1), (fun h => by rw [Hst11.out] at *; obtain ⟨g, s, A, n, c, h1, h2, h3, _⟩ := HF8.out h; exact ⟨g, s, A, n, c, h1, h2, h3.up hup1, fun h => by cases h⟩), HF9.out, HF10.out, (fun h => ⟨(HF11.out h).1, rfl⟩), HN6x7.out, HN6x8.out, HN7x8.out⟩
    · skip
      have hn := ready_not hi
      have hst9 : b9 = false := by
        cases e : b9 with
        | false => rfl
        | true => have h5 := (HF9.out e).1; rw [h5] at hn; cases hn
      have Hst9 := hide hst9
      clear hst9
      clear hn
      clear hi
      have hsz := hup.size
      have hupA := (Up.refl W).alloc (.cells #[.bool false, .slice none 0 0] 24)
      refine wpOp_step rfl (fun K hK => ?_)
      go_simp
      refine hK _ _ ?_
      clear hK K
      exact ⟨b0, b1, b2, b3, b4, b5, true, b7, b8, b9, b10, b11, x1_0, x1_1, x1_2, x1_3, x1_4, x1_5, .pointer (some ⟨W.heap.size, 0, none⟩), x1_7, x1_8, rfl, rfl, hup.trans hupA, HF0.out, (fun h => (HF1.out h).up hupA), HF2.out, (fun h => (HF3.out h).up hupA), HF4.out, (fun h => (HF5.out h).up hupA), (fun _ => by rw [Hst9.out]; exact Box.new _ W _ hsz), (fun h => (HF7.out h).up hupA), (fun h => (HF8.out h).up hupA), (fun h => ⟨rfl, (HF9.out h).2⟩), HF10.out, HF11.out, (fun _ h => (HF7.out h).ne_new.symm), (fun _ h => (HF8.out h).ne_new.symm), HN7x8.out⟩
    · skip
      have hn := ready_not hi
      have hst10 : b10 = false := by
        cases e : b10 with
        | false => rfl
        | true => have h5 := (HF10.out e).1; rw [h5] at hn; cases hn
      have Hst10 := hide hst10
      clear hst10
      clear hn
      clear hi
      have hsz := hup.size
      have hupA := (Up.refl W).alloc (.cells #[.bool false, .slice none 0 0] 24)
      refine wpOp_step rfl (fun K hK => ?_)
      go_simp
      refine hK _ _ ?_
      clear hK K
      exact ⟨b0, b1, b2, b3, b4, b5, b6, true, b8, b9, b10, b11, x1_0, x1_1, x1_2, x1_3, x1_4, x1_5, x1_6, .pointer (some ⟨W.heap.size, 0, none⟩), x1_8, rfl, rfl, hup.trans hupA, HF0.out, (fun h => (HF1.out h).up hupA), HF2.out, (fun h => (HF3.out h).up hupA), HF4.out, (fun h => (HF5.out h).up hupA), (fun h => (HF6.out h).up hupA), (fun _ => by rw [Hst10.out]; exact Box.new _ W _ hsz), (fun h => (HF8.out h).up hupA), HF9.out, (fun h => ⟨rfl, (HF10.out h).2⟩), HF11.out, (fun h _ => (HF6.out h).ne_new), HN6x8.out, (fun _ h => (HF8.out h).ne_new.symm)⟩
    · skip
      have hn := ready_not hi
      have hst11 : b11 = false := by
        cases e : b11 with
        | false => rfl
        | true => have h5 := (HF11.out e).1; rw [h5] at hn; cases hn
      have Hst11 := hide hst11
      clear hst11
      clear hn
      clear hi
      have hsz := hup.size
      have hupA := (Up.refl W).alloc (.cells #[.bool false, .slice none 0 0] 24)
      refine wpOp_step rfl (fun K hK => ?_)
      go_simp
      refine hK _ _ ?_
      clear hK K
      exact ⟨b0, b1, b2, b3, b4, b5, b6, b7, true, b9, b10, b11, x1_0, x1_1, x1_2, x1_3, x1_4, x1_5, x1_6, x1_7, .pointer (some ⟨W.heap.size, 0, none⟩), rfl, rfl, hup.trans hupA, HF0.out, (fun h => (HF1.out h).up hupA), HF2.out, (fun h => (HF3.out h).up hupA), HF4.out, (fun h => (HF5.out h).up hupA), (fun h => (HF6.out h).up hupA), (fun h => (HF7.out h).up hupA), (fun _ => by rw [Hst11.out]; exact Box.new _ W _ hsz), HF9.out, HF10.out, (fun h => ⟨rfl, (HF11.out h).2⟩), HN6x7.out, (fun h _ => (HF6.out h).ne_new), (fun h _ => (HF7.out h).ne_new)⟩
    · skip
      have hb2 : b6 = true := getB (l := [b0, b1, b2, b3, b4, b5, b6, b7, b8, b9, b10, b11]) (ready_dep hi rfl 6 (by kernel_rfl)) rfl
      have hb1 : b1 = true := getB (l := [b0, b1, b2, b3, b4, b5, b6, b7, b8, b9, b10, b11]) (ready_dep hi rfl 1 (by kernel_rfl)) rfl
      clear hi
      obtain ⟨s9, A9, n9, c9, hxc⟩ := (HF1.out hb1).agg
      subst hxc
      obtain ⟨g, s8, A8, n8, c8, hxb, hgB, hbk, _⟩ := HF6.out hb2
      subst hxb
      have f1 := hbk.cell (i := 0) rfl
      have f2 := hbk.cell (i := 1) rfl
      have f3 := hbk.frozen 0
      have f4 := hbk.frozen 1
      have Hb1 := hide hb1
      have Hb2 := hide hb2
      have hsz := hup.size
      clear hb1 hb2
      refine wpOp_step rfl (fun K hK => ?_)
      go_simp
      refine hK _ _ ?_
      clear hK K
      exact ⟨b0, b1, b2, b3, b4, b5, b6, b7, b8, true, b10, b11, x1_0, .agg #[.bool s9, .slice A9 n9 c9], x1_2, x1_3, x1_4, x1_5, .pointer (some ⟨g, 0, none⟩), x1_7, x1_8, rfl, rfl, hup.two (g := g) hgB _ _, HF0.out, (fun h => (HF1.out h).boxed hbk _ _), HF2.out, (fun h => (HF3.out h).boxed hbk _ _), HF4.out, (fun h => (HF5.out h).boxed hbk _ _), (fun _ => hbk.fill hgB), (fun h => (HF7.out h).far ((HN6x7.out Hb2.out h).symm) _ _), (fun h => (HF8.out h).far ((HN6x8.out Hb2.out h).symm) _ _), (fun _ => ⟨Hb2.out, Hb1.out⟩), HF10.out, HF11.out, HN6x7.out, HN6x8.out, HN7x8.out⟩
    · skip
      have hb2 : b7 = true := getB (l := [b0, b1, b2, b3, b4, b5, b6, b7, b8, b9, b10, b11]) (ready_dep hi rfl 7 (by kernel_rfl)) rfl
      have hb1 : b3 = true := getB (l := [b0, b1, b2, b3, b4, b5, b6, b7, b8, b9, b10, b11]) (ready_dep hi rfl 3 (by kernel_rfl)) rfl
      clear hi
      obtain ⟨s9, A9, n9, c9, hxc⟩ := (HF3.out hb1).agg
      subst hxc
      obtain ⟨g, s8, A8, n8, c8, hxb, hgB, hbk, _⟩ := HF7.out hb2
      subst hxb
      have f1 := hbk.cell (i := 0) rfl
      have f2 := hbk.cell (i := 1) rfl
      have f3 := hbk.frozen 0
      have f4 := hbk.frozen 1
      have Hb1 := hide hb1
      have Hb2 := hide hb2
      have hsz := hup.size
      clear hb1 hb2
      refine wpOp_step rfl (fun K hK => ?_)
      go_simp
      refine hK _ _ ?_
      clear hK K
      exact ⟨b0, b1, b2, b3, b4, b5, b6, b7, b8, b9, true, b11, x1_0, x1_1, x1_2, .agg #[.bool s9, .slice A9 n9 c9], x1_4, x1_5, x1_6, .pointer (some ⟨g, 0, none⟩), x1_8, rfl, rfl, hup.two (g := g) hgB _ _, HF0.out, (fun h => (HF1.out h).boxed hbk _ _), HF2.out, (fun h => (HF3.out h).boxed hbk _ _), HF4.out, (fun h => (HF5.out h).boxed hbk _ _), (fun h => (HF6.out h).far (HN6x7.out h Hb2.out) _ _), (fun _ => hbk.fill hgB), (fun h => (HF8.out h).far ((HN7x8.out Hb2.out h).symm) _ _), HF9.out, (fun _ => ⟨Hb2.out, Hb1.out⟩), HF11.out, HN6x7.out, HN6x8.out, HN7x8.out⟩
    · skip
      have hb2 : b8 = true := getB (l := [b0, b1, b2, b3, b4, b5, b6, b7, b8, b9, b10, b11]) (ready_dep hi rfl 8 (by kernel_rfl)) rfl
      have hb1 : b5 = true := getB (l := [b0, b1, b2, b3, b4, b5, b6, b7, b8, b9, b10, b11]) (ready_dep hi rfl 5 (by kernel_rfl)) rfl
      clear hi
      obtain ⟨s9, A9, n9, c9, hxc⟩ := (HF5.out hb1).agg
      subst hxc
      obtain ⟨g, s8, A8, n8, c8, hxb, hgB, hbk, _⟩ := HF8.out hb2
      subst hxb
      have f1 := hbk.cell (i := 0) rfl
      have f2 := hbk.cell (i := 1) rfl
      have f3 := hbk.frozen 0
      have f4 := hbk.frozen 1
      have Hb1 := hide hb1
      have Hb2 := hide hb2
      have hsz := hup.size
      clear hb1 hb2
      refine wpOp_step rfl (fun K hK => ?_)
      go_simp
      refine hK _ _ ?_
      clear hK K
      exact ⟨b0, b1, b2, b3, b4, b5, b6, b7, b8, b9, b10, true, x1_0, x1_1, x1_2, x1_3, x1_4, .agg #[.bool s9, .slice A9 n9 c9], x1_6, x1_7, .pointer (some ⟨g, 0, none⟩), rfl, rfl, hup.two (g := g) hgB _ _, HF0.out, (fun h => (HF1.out h).boxed hbk _ _), HF2.out, (fun h => (HF3.out h).boxed hbk _ _), HF4.out, (fun h => (HF5.out h).boxed hbk _ _), (fun h => (HF6.out h).far (HN6x8.out h Hb2.out) _ _), (fun h => (HF7.out h).far (HN7x8.out h Hb2.out) _ _), (fun _ => hbk.fill hgB), HF9.out, HF10.out, (fun _ => ⟨Hb2.out, Hb1.out⟩), HN6x7.out, HN6x8.out, HN7x8.out⟩
  case hQ =>
    rintro l a W1_ ⟨b0, b1, b2, b3, b4, b5, b6, b7, b8, b9, b10, b11, x1_0, x1_1, x1_2, x1_3, x1_4, x1_5, x1_6, x1_7, x1_8, rfl, rfl, hup, hF0, hF1, hF2, hF3, hF4, hF5, hF6, hF7, hF8, hF9, hF10, hF11, hN6x7, hN6x8, hN7x8⟩ hall
    have hb0 : b0 = true := getB (l := [b0, b1, b2, b3, b4, b5, b6, b7, b8, b9, b10, b11]) (hall 0 (by decide)) rfl
    have hb1 : b1 = true := getB (l := [b0, b1, b2, b3, b4, b5, b6, b7, b8, b9, b10, b11]) (hall 1 (by decide)) rfl
    have hb2 : b2 = true := getB (l := [b0, b1, b2, b3, b4, b5, b6, b7, b8, b9, b10, b11]) (hall 2 (by decide)) rfl
    have hb3 : b3 = true := getB (l := [b0, b1, b2, b3, b4, b5, b6, b7, b8, b9, b10, b11]) (hall 3 (by decide)) rfl
    have hb4 : b4 = true := getB (l := [b0, b1, b2, b3, b4, b5, b6, b7, b8, b9, b10, b11]) (hall 4 (by decide)) rfl
    have hb5 : b5 = true := getB (l := [b0, b1, b2, b3, b4, b5, b6, b7, b8, b9, b10, b11]) (hall 5 (by decide)) rfl
    have hb6 : b6 = true := getB (l := [b0, b1, b2, b3, b4, b5, b6, b7, b8, b9, b10, b11]) (hall 6 (by decide)) rfl
    have hb7 : b7 = true := getB (l := [b0, b1, b2, b3, b4, b5, b6, b7, b8, b9, b10, b11]) (hall 7 (by decide)) rfl
    have hb8 : b8 = true := getB (l := [b0, b1, b2, b3, b4, b5, b6, b7, b8, b9, b10, b11]) (hall 8 (by decide)) rfl
    have hb9 : b9 = true := getB (l := [b0, b1, b2, b3, b4, b5, b6, b7, b8, b9, b10, b11]) (hall 9 (by decide)) rfl
    have hb10 : b10 = true := getB (l := [b0, b1, b2, b3, b4, b5, b6, b7, b8, b9, b10, b11]) (hall 10 (by decide)) rfl
    have hb11 : b11 = true := getB (l := [b0, b1, b2, b3, b4, b5, b6, b7, b8, b9, b10, b11]) (hall 11 (by decide)) rfl
    subst hb0 hb1 hb2 hb3 hb4 hb5 hb6 hb7 hb8 hb9 hb10 hb11
    clear hall
    have m0 := hF0 rfl
    have m1 := hF1 rfl
    have m2 := hF2 rfl
    have m3 := hF3 rfl
    have m4 := hF4 rfl
    have m5 := hF5 rfl
    have m6 := hF6 rfl
    have m7 := hF7 rfl
    have m8 := hF8 rfl
    clear hF0 hF1 hF2 hF3 hF4 hF5 hF6 hF7 hF8 hF9 hF10 hF11 hN6x7 hN6x8 hN7x8
    obtain ⟨ga, sa, Aa, na, ca, rfl, hga, hka, hea⟩ := m6
    obtain rfl := hea rfl
    clear hea hga
    obtain ⟨x, hia, hta⟩ := m1
    obtain ⟨gb, sb, Ab, nb, cb, rfl, hgb, hkb, heb⟩ := m7
    obtain rfl := heb rfl
    clear heb hgb
    obtain ⟨y, hib, htb⟩ := m3
    obtain ⟨ge, se, Ae, ne, ce, rfl, hge, hke, hee⟩ := m8
    obtain rfl := hee rfl
    clear hee hge
    obtain ⟨z, hie, hte⟩ := m5
    obtain rfl := m0
    obtain rfl := m2
    obtain rfl := m4
    have hupw := hupw.trans hup
    clear hup
    have hkaa := hka.cell (i := 0) rfl
    have hkab := hka.cell (i := 1) rfl
    have hkal := hka.lt
    have hkba := hkb.cell (i := 0) rfl
    have hkbb := hkb.cell (i := 1) rfl
    have hkbl := hkb.lt
    have hkea := hke.cell (i := 0) rfl
    have hkeb := hke.cell (i := 1) rfl
    have hkel := hke.lt
    go_wp2_with fail
    clear hkaa hkab hkal hkba hkbb hkbl hkea hkeb hkel
    clear q0 q1 q2 g0 g1 g2 hb1 hb2 hb3 e1a e1b e2a e2b e3a e3b Hw0
    obtain ⟨cn, Hcn⟩ : ∃ r : Int, Hid (r = cmpZ x y) := ⟨_, rfl⟩
    have hcn1 : -1 ≤ cn := by rw [Hcn.out]; exact (cmpZ_bd x y).1
    have hcn2 : cn ≤ 1 := by rw [Hcn.out]; exact (cmpZ_bd x y).2
    refine (awake_any _).mono ?_
    rintro e w2_ ⟨rfl, hup⟩
    have hka := hka.up hup
    have hkb := hkb.up hup
    have hke := hke.up hup
    have hia := hia.up hup
    have hib := hib.up hup
    have hie := hie.up hup
    have hupw := hupw.trans hup
    clear hup
    have hkaa := hka.cell (i := 0) rfl
    have hkab := hka.cell (i := 1) rfl
    have hkal := hka.lt
    have hkba := hkb.cell (i := 0) rfl
    have hkbb := hkb.cell (i := 1) rfl
    have hkbl := hkb.lt
    have hkea := hke.cell (i := 0) rfl
    have hkeb := hke.cell (i := 1) rfl
    have hkel := hke.lt
    go_wp2_with fail
    clear hkaa hkab hkal hkba hkbb hkbl hkea hkeb hkel
    refine region_inv (fun l a W => ∃ (b0 b1 b2 b3 b4 b5 : Bool) (x3_0 x3_1 x3_2 x3_3 x3_4 x3_5 : Value), l = #[b0, b1, b2, b3, b4, b5] ∧ a = { tmps := #[.agg #[.bool s, .slice A n c], .agg #[.bool t, .slice C m d], .agg #[.bool u, .slice E p f], .pointer (some ⟨w.heap.size, 0, none⟩), .pointer (some ⟨w.heap.size + 1, 0, none⟩), .pointer (some ⟨w.heap.size + 1 + 1, 0, none⟩), .bool false, .pointer (some ⟨ga, 0, none⟩), .pointer (some ⟨gb, 0, none⟩), .pointer (some ⟨ge, 0, none⟩), x3_5, undef, undef, undef, undef, .agg #[.bool s, .slice A n c], .agg #[.bool sa, .slice Aa na ca], .agg #[.bool t, .slice C m d], .agg #[.bool sb, .slice Ab nb cb], .agg #[.bool u, .slice E p f], .agg #[.bool se, .slice Ae ne ce], .bool true, .bool false, x3_0, x3_1, x3_2, x3_3, x3_4, undef, undef, undef, undef, undef, undef, undef, undef, undef, undef, undef, undef, undef, undef, undef, undef, undef, undef, undef, undef, undef, undef, undef, undef, undef, undef, undef, undef, undef, undef, undef, undef, undef, undef, undef, undef, undef, undef, undef, undef, undef, undef, undef, undef, undef, undef, undef, undef, undef, undef, undef, undef], defers := [] } ∧ Up w2_ W ∧ (b0 = true → IsInt 0 W x3_0 (x)) ∧ (b1 = true → IsInt 0 W x3_1 (x)) ∧ (b2 = true → IsInt 0 W x3_2 (y)) ∧ (b3 = true → IsInt 0 W x3_3 (y)) ∧ (b4 = true → x3_4 = .int .i64 cn) ∧ (b5 = true → x3_5 = .int .i64 cn)) (by kernel_rfl) (by kernel_rfl) ?hs ?h0 ?hstep ?hQ
    case hs => rintro l a W ⟨b0, b1, b2, b3, b4, b5, x3_0, x3_1, x3_2, x3_3, x3_4, x3_5, rfl, rfl, hup, hF0, hF1, hF2, hF3, hF4, hF5⟩; rfl
    case h0 => exact ⟨false, false, false, false, false, false, undef, undef, undef, undef, undef, undef, rfl, rfl, (Up.refl w2_).drew, (fun h => by cases h), (fun h => by cases h), (fun h => by cases h), (fun h => by cases h), (fun h => by cases h), (fun h => by cases h)⟩
    case hstep =>
      rintro l a W ⟨b0, b1, b2, b3, b4, b5, x3_0, x3_1, x3_2, x3_3, x3_4, x3_5, rfl, rfl, hup, hF0, hF1, hF2, hF3, hF4, hF5⟩ i hi
      have hlt : i < 6 := ready_lt hi
      have HF0 := hide hF0
      have HF1 := hide hF1
      have HF2 := hide hF2
      have HF3 := hide hF3
      have HF4 := hide hF4
      have HF5 := hide hF5
      clear hF0 hF1 hF2 hF3 hF4 hF5
      have hcase : i = 0 ∨ i = 1 ∨ i = 2 ∨ i = 3 ∨ i = 4 ∨ i = 5 := by omega
      clear hlt
      rcases hcase with rfl | rfl | rfl | rfl | rfl | rfl
      · skip
        have k0 := hka.up hup
        have k1 := k0.cell (i := 0) rfl
        have k2 := k0.cell (i := 1) rfl
        clear hi
        refine wpOp_step rfl (fun K hK => ?_)
        go_simp
        refine hK _ _ ?_
        clear hK K
        exact ⟨true, b1, b2, b3, b4, b5, .agg #[.bool sa, .slice Aa na ca], x3_1, x3_2, x3_3, x3_4, x3_5, rfl, rfl, hup, (fun _ => hia.up hup), HF1.out, HF2.out, HF3.out, HF4.out, HF5.out⟩
      · skip
        have hb : b0 = true := getB (l := [b0, b1, b2, b3, b4, b5]) (ready_dep hi rfl 0 (by kernel_rfl)) rfl
        have hx := hide (HF0.out hb)
        clear hb
        clear hi
        refine wpOp_step rfl (fun K hK => ?_)
        go_simp
        refine (ownI 0 _ _ _ hx.out (by assumption)).mono ?_
        rintro e w1 ⟨v1, rfl, hv1, hup1⟩
        go_wp2_with fail
        exact ⟨b0, true, b2, b3, b4, b5, x3_0, v1, x3_2, x3_3, x3_4, x3_5, rfl, rfl, hup.trans hup1, (fun h => (HF0.out h).up hup1), (fun _ => hv1.mono (Nat.zero_le _)), (fun h => (HF2.out h).up hup1), (fun h => (HF3.out h).up hup1), HF4.out, HF5.out⟩
      · skip
        have k0 := hkb.up hup
        have k1 := k0.cell (i := 0) rfl
        have k2 := k0.cell (i := 1) rfl
        clear hi
        refine wpOp_step rfl (fun K hK => ?_)
        go_simp
        refine hK _ _ ?_
        clear hK K
        exact ⟨b0, b1, true, b3, b4, b5, x3_0, x3_1, .agg #[.bool sb, .slice Ab nb cb], x3_3, x3_4, x3_5, rfl, rfl, hup, HF0.out, HF1.out, (fun _ => hib.up hup), HF3.out, HF4.out, HF5.out⟩
      · skip
        have hb : b2 = true := getB (l := [b0, b1, b2, b3, b4, b5]) (ready_dep hi rfl 2 (by kernel_rfl)) rfl
        have hx := hide (HF2.out hb)
        clear hb
        clear hi
        refine wpOp_step rfl (fun K hK => ?_)
        go_simp
        refine (ownI 0 _ _ _ hx.out (by assumption)).mono ?_
        rintro e w1 ⟨v1, rfl, hv1, hup1⟩
        go_wp2_with fail
        exact ⟨b0, b1, b2, true, b4, b5, x3_0, x3_1, x3_2, v1, x3_4, x3_5, rfl, rfl, hup.trans hup1, (fun h => (HF0.out h).up hup1), (fun h => (HF1.out h).up hup1), (fun h => (HF2.out h).up hup1), (fun _ => hv1.mono (Nat.zero_le _)), HF4.out, HF5.out⟩
      · skip
        have hb0q : b1 = true := getB (l := [b0, b1, b2, b3, b4, b5]) (ready_dep hi rfl 1 (by kernel_rfl)) rfl
        have hx0 := hide (HF1.out hb0q)
        clear hb0q
        have hb1q : b3 = true := getB (l := [b0, b1, b2, b3, b4, b5]) (ready_dep hi rfl 3 (by kernel_rfl)) rfl
        have hx1 := hide (HF3.out hb1q)
        clear hb1q
        clear hi
        refine wpOp_step rfl (fun K hK => ?_)
        go_simp
        refine (cmpA _ _ x y cn _ hx0.out hx1.out hta htb Hcn).mono ?_
        rintro e w1 ⟨rfl, hup1⟩
        go_wp2_with fail
        exact ⟨b0, b1, b2, b3, true, b5, x3_0, x3_1, x3_2, x3_3, .int .i64 cn, x3_5, rfl, rfl, hup.trans hup1, (fun h => (HF0.out h).up hup1), (fun h => (HF1.out h).up hup1), (fun h => (HF2.out h).up hup1), (fun h => (HF3.out h).up hup1), (fun _ => rfl), HF5.out⟩
      · skip
        have hb : b4 = true := getB (l := [b0, b1, b2, b3, b4, b5]) (ready_dep hi rfl 4 (by kernel_rfl)) rfl
        have hx := hide (HF4.out hb)
        clear hb
        clear hi
        refine wpOp_step rfl (fun K hK => ?_)
        go_simp
        refine hK _ _ ?_
        clear hK K
        exact ⟨b0, b1, b2, b3, b4, true, x3_0, x3_1, x3_2, x3_3, x3_4, x3_4, rfl, rfl, hup, HF0.out, HF1.out, HF2.out, HF3.out, HF4.out, (fun _ => hx.out)⟩
    case hQ =>
      rintro l a W3_ ⟨b0, b1, b2, b3, b4, b5, x3_0, x3_1, x3_2, x3_3, x3_4, x3_5, rfl, rfl, hup, hF0, hF1, hF2, hF3, hF4, hF5⟩ hall
      have hb0 : b0 = true := getB (l := [b0, b1, b2, b3, b4, b5]) (hall 0 (by decide)) rfl
      have hb1 : b1 = true := getB (l := [b0, b1, b2, b3, b4, b5]) (hall 1 (by decide)) rfl
      have hb2 : b2 = true := getB (l := [b0, b1, b2, b3, b4, b5]) (hall 2 (by decide)) rfl
      have hb3 : b3 = true := getB (l := [b0, b1, b2, b3, b4, b5]) (hall 3 (by decide)) rfl
      have hb4 : b4 = true := getB (l := [b0, b1, b2, b3, b4, b5]) (hall 4 (by decide)) rfl
      have hb5 : b5 = true := getB (l := [b0, b1, b2, b3, b4, b5]) (hall 5 (by decide)) rfl
      subst hb0 hb1 hb2 hb3 hb4 hb5
      clear hall
      have m0 := hF0 rfl
      have m1 := hF1 rfl
      have m2 := hF2 rfl
      have m3 := hF3 rfl
      have m4 := hF4 rfl
      have m5 := hF5 rfl
      clear hF0 hF1 hF2 hF3 hF4 hF5
      obtain rfl := m4
      obtain rfl := m5
      clear m0 m1 m2 m3
      have hka := hka.up hup
      have hkb := hkb.up hup
      have hke := hke.up hup
      have hia := hia.up hup
      have hib := hib.up hup
      have hie := hie.up hup
      have hupw := hupw.trans hup
      clear hup
      have hkaa := hka.cell (i := 0) rfl
      have hkab := hka.cell (i := 1) rfl
      have hkal := hka.lt
      have hkba := hkb.cell (i := 0) rfl
      have hkbb := hkb.cell (i := 1) rfl
      have hkbl := hkb.lt
      have hkea := hke.cell (i := 0) rfl
      have hkeb := hke.cell (i := 1) rfl
      have hkel := hke.lt
      go_wp2_with fail
      clear hkaa hkab hkal hkba hkbb hkbl hkea hkeb hkel
      have hwn : IntKind.i64.wrap (-cn) = -cn := by rw [IntKind.wrap_i64]; omega
      have ka0 : W3_.cell? ⟨ga, 0, none⟩ = some (.bool sa) := hka.cell (i := 0) rfl
      have kb0 : W3_.cell? ⟨ga, 1, none⟩ = some (.slice Aa na ca) := hka.cell (i := 1) rfl
      have ka1 : W3_.cell? ⟨gb, 0, none⟩ = some (.bool sb) := hkb.cell (i := 0) rfl
      have kb1 : W3_.cell? ⟨gb, 1, none⟩ = some (.slice Ab nb cb) := hkb.cell (i := 1) rfl
      have hupA : Up W3_ W3_.drew := (Up.refl W3_).drew
      go_region_held3 (fun w' => w'.cell? ⟨ga, 0, none⟩ = some (.bool sa) ∧ w'.cell? ⟨ga, 1, none⟩ = some (.slice Aa na ca) ∧ w'.cell? ⟨gb, 0, none⟩ = some (.bool sb) ∧ w'.cell? ⟨gb, 1, none⟩ = some (.slice Ab nb cb))
        (exact ⟨hupA.keep ka0, hupA.keep kb0, hupA.keep ka1, hupA.keep kb1⟩)
        (first
          | (go_at_call 31; refine (rcmpA _ _ x y cn _ (hia.up hupA) (hib.up hupA) hta htb Hcn).mono ?_; rintro e wx ⟨rfl, hupx⟩; replace hupA := hupA.trans hupx)
          | (go_at_call_of 17 Ab; refine (ownI 0 _ y _ (hib.up hupA) htb).mono ?_; rintro e wx ⟨vb, rfl, hvb, hupvb⟩; replace hupA := hupA.trans hupvb)
          | (go_at_call_of 17 Aa; have hpre := hvp; refine (ownI 0 _ x _ (hia.up hupA) hta).mono ?_; rintro e wx ⟨vq, rfl, hvq, hupvq⟩; replace hupA := hupA.trans hupvq)
          | (go_at_call_of 17 Aa; have hpre := hva; refine (ownI 0 _ x _ (hia.up hupA) hta).mono ?_; rintro e wx ⟨vp, rfl, hvp, hupvp⟩; replace hupA := hupA.trans hupvp)
          | (go_at_call_of 17 Aa; refine (ownI 0 _ x _ (hia.up hupA) hta).mono ?_; rintro e wx ⟨va, rfl, hva, hupva⟩; replace hupA := hupA.trans hupva)
          | (go_at_call 20; refine (cmpA _ _ x x 0 _ ((hvp.mono (Nat.zero_le _)).up hupvq) (hvq.mono (Nat.zero_le _)) hta hta (hide (cmpZ_self x).symm)).mono ?_; rintro e wl ⟨rfl, hupx⟩; replace hupA := hupA.trans hupx)
          | (go_at_call 20; refine (cmpA _ _ y x (-cn) _ ((hvb.mono (Nat.zero_le _)).up hupva) (hva.mono (Nat.zero_le _)) htb hta (hide (by rw [Hcn.out]; exact (cmpZ_neg x y).symm))).mono ?_; rintro e wx ⟨rfl, hupx⟩; replace hupA := hupA.trans hupx))
      clear ka0 kb0 ka1 kb1
      have hka := hka.up hupA
      have hkb := hkb.up hupA
      have hke := hke.up hupA
      have hia := hia.up hupA
      have hib := hib.up hupA
      have hie := hie.up hupA
      have hupw := hupw.trans hupA
      clear hupA
      have hkaa := hka.cell (i := 0) rfl
      have hkab := hka.cell (i := 1) rfl
      have hkal := hka.lt
      have hkba := hkb.cell (i := 0) rfl
      have hkbb := hkb.cell (i := 1) rfl
      have hkbl := hkb.lt
      have hkea := hke.cell (i := 0) rfl
      have hkeb := hke.cell (i := 1) rfl
      have hkel := hke.lt
      go_wp2_with fail
      clear hkaa hkab hkal hkba hkbb hkbl hkea hkeb hkel
      clear hwn
      refine region_inv (fun l a W => ∃ (b0 b1 b2 b3 b4 b5 b6 b7 b8 b9 b10 : Bool) (x4_0 x4_1 x4_2 x4_3 x4_4 x4_5 x4_6 x4_7 x4_8 x4_10 : Value), l = #[b0, b1, b2, b3, b4, b5, b6, b7, b8, b9, b10] ∧ a = { tmps := #[.agg #[.bool s, .slice A n c], .agg #[.bool t, .slice C m d], .agg #[.bool u, .slice E p f], .pointer (some ⟨w.heap.size, 0, none⟩), .pointer (some ⟨w.heap.size + 1, 0, none⟩), .pointer (some ⟨w.heap.size + 1 + 1, 0, none⟩), .bool false, .pointer (some ⟨ga, 0, none⟩), .pointer (some ⟨gb, 0, none⟩), .pointer (some ⟨ge, 0, none⟩), .int .i64 cn, x4_8, x4_10, undef, undef, .agg #[.bool s, .slice A n c], .agg #[.bool sa, .slice Aa na ca], .agg #[.bool t, .slice C m d], .agg #[.bool sb, .slice Ab nb cb], .agg #[.bool u, .slice E p f], .agg #[.bool se, .slice Ae ne ce], .bool true, .bool false, x3_0, x3_1, x3_2, x3_3, .int .i64 cn, .int .i64 cn, .agg #[.bool sa, .slice Aa na ca], .agg #[.bool sb, .slice Ab nb cb], .int .i64 cn, .bool false, .bool false, .agg #[.bool sb, .slice Ab nb cb], vb, .agg #[.bool sa, .slice Aa na ca], va, .int .i64 (-cn), .int .i64 cn, .int .i64 (-cn), .bool false, .bool false, .bool false, .agg #[.bool sa, .slice Aa na ca], vp, .agg #[.bool sa, .slice Aa na ca], vq, .int .i64 0, .bool false, .bool false, x4_5, x4_0, x4_1, x4_2, x4_3, x4_4, x4_6, x4_7, undef, undef, undef, undef, undef, undef, undef, undef, undef, undef, undef, undef, undef, undef, undef, undef, undef, undef, undef, undef, undef], defers := [] } ∧ Up wl W ∧ (b0 = true → IsInt 0 W x4_0 (x)) ∧ (b1 = true → IsInt 0 W x4_1 (x)) ∧ (b2 = true → IsInt 0 W x4_2 (z)) ∧ (b3 = true → IsInt 0 W x4_3 (z)) ∧ (b4 = true → ∃ v0 : Value, x4_4 = .tuple #[v0, .int .i64 (bndE (x - z))] ∧ IsInt 0 W v0 (bnd (x - z))) ∧ (b5 = true → ∃ v0 : Value, x4_5 = .tuple #[v0, .int .i64 (bndE (x - z))] ∧ IsInt 0 W v0 (bnd (x - z))) ∧ (b6 = true → IsInt 0 W x4_6 (bnd (x - z))) ∧ (b7 = true → x4_7 = .int .i64 (bndE (x - z))) ∧ (b8 = true → Box (wl.heap.size) W x4_8 b9 x4_6) ∧ (b9 = true → b8 = true ∧ b6 = true) ∧ (b10 = true → x4_10 = .int .i64 (bndE (x - z)))) (by kernel_rfl) (by kernel_rfl) ?hs ?h0 ?hstep ?hQ
      case hs => rintro l a W ⟨b0, b1, b2, b3, b4, b5, b6, b7, b8, b9, b10, x4_0, x4_1, x4_2, x4_3, x4_4, x4_5, x4_6, x4_7, x4_8, x4_10, rfl, rfl, hup, hF0, hF1, hF2, hF3, hF4, hF5, hF6, hF7, hF8, hF9, hF10⟩; rfl
      case h0 => exact ⟨false, false, false, false, false, false, false, false, false, false, false, undef, undef, undef, undef, undef, undef, undef, undef, undef, undef, rfl, rfl, (Up.refl wl).drew, (fun h => by cases h), (fun h => by cases h), (fun h => by cases h), (fun h => by cases h), (fun h => by cases h), (fun h => by cases h), (fun h => by cases h), (fun h => by cases h), (fun h => by cases h), (fun h => by cases h), (fun h => by cases h)⟩
      case hstep =>
        rintro l a W ⟨b0, b1, b2, b3, b4, b5, b6, b7, b8, b9, b10, x4_0, x4_1, x4_2, x4_3, x4_4, x4_5, x4_6, x4_7, x4_8, x4_10, rfl, rfl, hup, hF0, hF1, hF2, hF3, hF4, hF5, hF6, hF7, hF8, hF9, hF10⟩ i hi
        have hlt : i < 11 := ready_lt hi
        have HF0 := hide hF0
        have HF1 := hide hF1
        have HF2 := hide hF2
        have HF3 := hide hF3
        have HF4 := hide hF4
        have HF5 := hide hF5
        have HF6 := hide hF6
        have HF7 := hide hF7
        have HF8 := hide hF8
        have HF9 := hide hF9
        have HF10 := hide hF10
        clear hF0 hF1 hF2 hF3 hF4 hF5 hF6 hF7 hF8 hF9 hF10
        have hcase : i = 0 ∨ i = 1 ∨ i = 2 ∨ i = 3 ∨ i = 4 ∨ i = 5 ∨ i = 6 ∨ i = 7 ∨ i = 8 ∨ i = 9 ∨ i = 10 := by omega
        clear hlt
        rcases hcase with rfl | rfl | rfl | rfl | rfl | rfl | rfl | rfl | rfl | rfl | rfl
        · skip
          have k0 := hka.up hup
          have k1 := k0.cell (i := 0) rfl
          have k2 := k0.cell (i := 1) rfl
          clear hi
          refine wpOp_step rfl (fun K hK => ?_)
          go_simp
          refine hK _ _ ?_
          clear hK K
          exact ⟨true, b1, b2, b3, b4, b5, b6, b7, b8, b9, b10, .agg #[.bool sa, .slice Aa na ca], x4_1, x4_2, x4_3, x4_4, x4_5, x4_6, x4_7, x4_8, x4_10, rfl, rfl, hup, (fun _ => hia.up hup), HF1.out, HF2.out, HF3.out, HF4.out, HF5.out, HF6.out, HF7.out, HF8.out, HF9.out, HF10.out⟩
        · skip
          have hb : b0 = true := getB (l := [b0, b1, b2, b3, b4, b5, b6, b7, b8, b9, b10]) (ready_dep hi rfl 0 (by kernel_rfl)) rfl
          have hx := hide (HF0.out hb)
          clear hb
          clear hi
          refine wpOp_step rfl (fun K hK => ?_)
          go_simp
          refine (ownI 0 _ _ _ hx.out (by assumption)).mono ?_
          rintro e w1 ⟨v1, rfl, hv1, hup1⟩
          go_wp2_with fail
          exact ⟨b0, true, b2, b3, b4, b5, b6, b7, b8, b9, b10, x4_0, v1, x4_2, x4_3, x4_4, x4_5, x4_6, x4_7, x4_8, x4_10, rfl, rfl, hup.trans hup1, (fun h => (HF0.out h).up hup1), (fun _ => hv1.mono (Nat.zero_le _)), (fun h => (HF2.out h).up hup1), (fun h => (HF3.out h).up hup1), (fun h => by obtain ⟨q0, rq, r0⟩ := HF4.out h; exact ⟨q0, rq, r0.up hup1⟩), (fun h => by obtain ⟨q0, rq, r0⟩ := HF5.out h; exact ⟨q0, rq, r0.up hup1⟩), (fun h => (HF6.out h).up hup1), HF7.out, (fun h => (HF8.out h).up hup1), HF9.out, HF10.out⟩
        · skip
          have k0 := hke.up hup
          have k1 := k0.cell (i := 0) rfl
          have k2 := k0.cell (i := 1) rfl
          clear hi
          refine wpOp_step rfl (fun K hK => ?_)
          go_simp
          refine hK _ _ ?_
          clear hK K
          exact ⟨b0, b1, true, b3, b4, b5, b6, b7, b8, b9, b10, x4_0, x4_1, .agg #[.bool se, .slice Ae ne ce], x4_3, x4_4, x4_5, x4_6, x4_7, x4_8, x4_10, rfl, rfl, hup, HF0.out, HF1.out, (fun _ => hie.up hup), HF3.out, HF4.out, HF5.out, HF6.out, HF7.out, HF8.out, HF9.out, HF10.out⟩
        · skip
          have hb : b2 = true := getB (l := [b0, b1, b2, b3, b4, b5, b6, b7, b8, b9, b10]) (ready_dep hi rfl 2 (by kernel_rfl)) rfl
          have hx := hide (HF2.out hb)
          clear hb
          clear hi
          refine wpOp_step rfl (fun K hK => ?_)
          go_simp
          refine (ownI 0 _ _ _ hx.out (by assumption)).mono ?_
          rintro e w1 ⟨v1, rfl, hv1, hup1⟩
          go_wp2_with fail
          exact ⟨b0, b1, b2, true, b4, b5, b6, b7, b8, b9, b10, x4_0, x4_1, x4_2, v1, x4_4, x4_5, x4_6, x4_7, x4_8, x4_10, rfl, rfl, hup.trans hup1, (fun h => (HF0.out h).up hup1), (fun h => (HF1.out h).up hup1), (fun h => (HF2.out h).up hup1), (fun _ => hv1.mono (Nat.zero_le _)), (fun h => by obtain ⟨q0, rq, r0⟩ := HF4.out h; exact ⟨q0, rq, r0.up hup1⟩), (fun h => by obtain ⟨q0, rq, r0⟩ := HF5.out h; exact ⟨q0, rq, r0.up hup1⟩), (fun h => (HF6.out h).up hup1), HF7.out, (fun h => (HF8.out h).up hup1), HF9.out, HF10.out⟩
        · skip
          have hb0q : b1 = true := getB (l := [b0, b1, b2, b3, b4, b5, b6, b7, b8, b9, b10]) (ready_dep hi rfl 1 (by kernel_rfl)) rfl
          have hx0 := hide (HF1.out hb0q)
          clear hb0q
          have hb1q : b3 = true := getB (l := [b0, b1, b2, b3, b4, b5, b6, b7, b8, b9, b10]) (ready_dep hi rfl 3 (by kernel_rfl)) rfl
          have hx1 := hide (HF3.out hb1q)
          clear hb1q
          clear hi
          refine wpOp_step rfl (fun K hK => ?_)
          go_simp
          refine (sub_any 0 0 _ _ x z _ hx0.out hx1.out hta hte).mono ?_
          rintro e w1 ⟨v0, rfl, hv0, hup1⟩
          go_wp2_with fail
          exact ⟨b0, b1, b2, b3, true, b5, b6, b7, b8, b9, b10, x4_0, x4_1, x4_2, x4_3, .tuple #[v0, .int .i64 (bndE (x - z))], x4_5, x4_6, x4_7, x4_8, x4_10, rfl, rfl, hup.trans hup1, (fun h => (HF0.out h).up hup1), (fun h => (HF1.out h).up hup1), (fun h => (HF2.out h).up hup1), (fun h => (HF3.out h).up hup1), (fun _ => ⟨v0, rfl, hv0.mono (Nat.zero_le _)⟩), (fun h => by obtain ⟨q0, rq, r0⟩ := HF5.out h; exact ⟨q0, rq, r0.up hup1⟩), (fun h => (HF6.out h).up hup1), HF7.out, (fun h => (HF8.out h).up hup1), HF9.out, HF10.out⟩
        · skip
          have hb : b4 = true := getB (l := [b0, b1, b2, b3, b4, b5, b6, b7, b8, b9, b10]) (ready_dep hi rfl 4 (by kernel_rfl)) rfl
          have hx := hide (HF4.out hb)
          clear hb
          clear hi
          refine wpOp_step rfl (fun K hK => ?_)
          go_simp
          refine hK _ _ ?_
          clear hK K
          exact ⟨b0, b1, b2, b3, b4, true, b6, b7, b8, b9, b10, x4_0, x4_1, x4_2, x4_3, x4_4, x4_4, x4_6, x4_7, x4_8, x4_10, rfl, rfl, hup, HF0.out, HF1.out, HF2.out, HF3.out, HF4.out, (fun _ => hx.out), HF6.out, HF7.out, HF8.out, HF9.out, HF10.out⟩
        · skip
          have hb : b5 = true := getB (l := [b0, b1, b2, b3, b4, b5, b6, b7, b8, b9, b10]) (ready_dep hi rfl 5 (by kernel_rfl)) rfl
          have Hb := hide hb
          obtain ⟨v0, hxe, hv0⟩ := HF5.out hb
          clear hb
          subst hxe
          have hn := ready_not hi
          have hst9 : b9 = false := by
            cases e : b9 with
            | false => rfl
            | true => have h5 := (HF9.out e).2; rw [h5] at hn; cases hn
          have Hst9 := hide hst9
          clear hst9
          clear hn
          clear hi
          refine wpOp_step rfl (fun K hK => ?_)
          go_simp
          refine hK _ _ ?_
          clear hK K
          exact ⟨b0, b1, b2, b3, b4, b5, true, b7, b8, b9, b10, x4_0, x4_1, x4_2, x4_3, x4_4, .tuple #[v0, .int .i64 (bndE (x - z))], v0, x4_7, x4_8, x4_10, rfl, rfl, hup, HF0.out, HF1.out, HF2.out, HF3.out, HF4.out, HF5.out, (fun _ => hv0), HF7.out, (fun h => by rw [Hst9.out] at *; obtain ⟨g, s, A, n, c, h1, h2, h3, _⟩ := HF8.out h; exact ⟨g, s, A, n, c, h1, h2, h3.up (Up.refl _), fun h => by cases h⟩), (fun h => ⟨(HF9.out h).1, rfl⟩), HF10.out⟩
        · skip
          have hb : b5 = true := getB (l := [b0, b1, b2, b3, b4, b5, b6, b7, b8, b9, b10]) (ready_dep hi rfl 5 (by kernel_rfl)) rfl
          have Hb := hide hb
          obtain ⟨v0, hxe, hv0⟩ := HF5.out hb
          clear hb
          subst hxe
          clear hi
          refine wpOp_step rfl (fun K hK => ?_)
          go_simp
          refine hK _ _ ?_
          clear hK K
          exact ⟨b0, b1, b2, b3, b4, b5, b6, true, b8, b9, b10, x4_0, x4_1, x4_2, x4_3, x4_4, .tuple #[v0, .int .i64 (bndE (x - z))], x4_6, .int .i64 (bndE (x - z)), x4_8, x4_10, rfl, rfl, hup, HF0.out, HF1.out, HF2.out, HF3.out, HF4.out, HF5.out, HF6.out, (fun _ => rfl), HF8.out, HF9.out, HF10.out⟩
        · skip
          have hn := ready_not hi
          have hst9 : b9 = false := by
            cases e : b9 with
            | false => rfl
            | true => have h5 := (HF9.out e).1; rw [h5] at hn; cases hn
          have Hst9 := hide hst9
          clear hst9
          clear hn
          clear hi
          have hsz := hup.size
          have hupA := (Up.refl W).alloc (.cells #[.bool false, .slice none 0 0] 24)
          refine wpOp_step rfl (fun K hK => ?_)
          go_simp
          refine hK _ _ ?_
          clear hK K
          exact ⟨b0, b1, b2, b3, b4, b5, b6, b7, true, b9, b10, x4_0, x4_1, x4_2, x4_3, x4_4, x4_5, x4_6, x4_7, .pointer (some ⟨W.heap.size, 0, none⟩), x4_10, rfl, rfl, hup.trans hupA, (fun h => (HF0.out h).up hupA), (fun h => (HF1.out h).up hupA), (fun h => (HF2.out h).up hupA), (fun h => (HF3.out h).up hupA), (fun h => by obtain ⟨q0, rq, r0⟩ := HF4.out h; exact ⟨q0, rq, r0.up hupA⟩), (fun h => by obtain ⟨q0, rq, r0⟩ := HF5.out h; exact ⟨q0, rq, r0.up hupA⟩), (fun h => (HF6.out h).up hupA), HF7.out, (fun _ => by rw [Hst9.out]; exact Box.new _ W _ hsz), (fun h => ⟨rfl, (HF9.out h).2⟩), HF10.out⟩
        · skip
          have hb2 : b8 = true := getB (l := [b0, b1, b2, b3, b4, b5, b6, b7, b8, b9, b10]) (ready_dep hi rfl 8 (by kernel_rfl)) rfl
          have hb1 : b6 = true := getB (l := [b0, b1, b2, b3, b4, b5, b6, b7, b8, b9, b10]) (ready_dep hi rfl 6 (by kernel_rfl)) rfl
          clear hi
          obtain ⟨s9, A9, n9, c9, hxc⟩ := (HF6.out hb1).agg
          subst hxc
          obtain ⟨g, s8, A8, n8, c8, hxb, hgB, hbk, _⟩ := HF8.out hb2
          subst hxb
          have f1 := hbk.cell (i := 0) rfl
          have f2 := hbk.cell (i := 1) rfl
          have f3 := hbk.frozen 0
          have f4 := hbk.frozen 1
          have Hb1 := hide hb1
          have Hb2 := hide hb2
          have hsz := hup.size
          clear hb1 hb2
          refine wpOp_step rfl (fun K hK => ?_)
          go_simp
          refine hK _ _ ?_
          clear hK K
          exact ⟨b0, b1, b2, b3, b4, b5, b6, b7, b8, true, b10, x4_0, x4_1, x4_2, x4_3, x4_4, x4_5, .agg #[.bool s9, .slice A9 n9 c9], x4_7, .pointer (some ⟨g, 0, none⟩), x4_10, rfl, rfl, hup.two (g := g) hgB _ _, (fun h => (HF0.out h).boxed hbk _ _), (fun h => (HF1.out h).boxed hbk _ _), (fun h => (HF2.out h).boxed hbk _ _), (fun h => (HF3.out h).boxed hbk _ _), (fun h => by obtain ⟨q0, rq, r0⟩ := HF4.out h; exact ⟨q0, rq, r0.boxed hbk _ _⟩), (fun h => by obtain ⟨q0, rq, r0⟩ := HF5.out h; exact ⟨q0, rq, r0.boxed hbk _ _⟩), (fun h => (HF6.out h).boxed hbk _ _), HF7.out, (fun _ => hbk.fill hgB), (fun _ => ⟨Hb2.out, Hb1.out⟩), HF10.out⟩
        · skip
          have hb : b7 = true := getB (l := [b0, b1, b2, b3, b4, b5, b6, b7, b8, b9, b10]) (ready_dep hi rfl 7 (by kernel_rfl)) rfl
          have hx := hide (HF7.out hb)
          clear hb
          clear hi
          refine wpOp_step rfl (fun K hK => ?_)
          go_simp
          refine hK _ _ ?_
          clear hK K
          exact ⟨b0, b1, b2, b3, b4, b5, b6, b7, b8, b9, true, x4_0, x4_1, x4_2, x4_3, x4_4, x4_5, x4_6, x4_7, x4_8, x4_7, rfl, rfl, hup, HF0.out, HF1.out, HF2.out, HF3.out, HF4.out, HF5.out, HF6.out, HF7.out, HF8.out, HF9.out, (fun _ => hx.out)⟩
      case hQ =>
        rintro l a W4_ ⟨b0, b1, b2, b3, b4, b5, b6, b7, b8, b9, b10, x4_0, x4_1, x4_2, x4_3, x4_4, x4_5, x4_6, x4_7, x4_8, x4_10, rfl, rfl, hup, hF0, hF1, hF2, hF3, hF4, hF5, hF6, hF7, hF8, hF9, hF10⟩ hall
        have hb0 : b0 = true := getB (l := [b0, b1, b2, b3, b4, b5, b6, b7, b8, b9, b10]) (hall 0 (by decide)) rfl
        have hb1 : b1 = true := getB (l := [b0, b1, b2, b3, b4, b5, b6, b7, b8, b9, b10]) (hall 1 (by decide)) rfl
        have hb2 : b2 = true := getB (l := [b0, b1, b2, b3, b4, b5, b6, b7, b8, b9, b10]) (hall 2 (by decide)) rfl
        have hb3 : b3 = true := getB (l := [b0, b1, b2, b3, b4, b5, b6, b7, b8, b9, b10]) (hall 3 (by decide)) rfl
        have hb4 : b4 = true := getB (l := [b0, b1, b2, b3, b4, b5, b6, b7, b8, b9, b10]) (hall 4 (by decide)) rfl
        have hb5 : b5 = true := getB (l := [b0, b1, b2, b3, b4, b5, b6, b7, b8, b9, b10]) (hall 5 (by decide)) rfl
        have hb6 : b6 = true := getB (l := [b0, b1, b2, b3, b4, b5, b6, b7, b8, b9, b10]) (hall 6 (by decide)) rfl
        have hb7 : b7 = true := getB (l := [b0, b1, b2, b3, b4, b5, b6, b7, b8, b9, b10]) (hall 7 (by decide)) rfl
        have hb8 : b8 = true := getB (l := [b0, b1, b2, b3, b4, b5, b6, b7, b8, b9, b10]) (hall 8 (by decide)) rfl
        have hb9 : b9 = true := getB (l := [b0, b1, b2, b3, b4, b5, b6, b7, b8, b9, b10]) (hall 9 (by decide)) rfl
        have hb10 : b10 = true := getB (l := [b0, b1, b2, b3, b4, b5, b6, b7, b8, b9, b10]) (hall 10 (by decide)) rfl
        subst hb0 hb1 hb2 hb3 hb4 hb5 hb6 hb7 hb8 hb9 hb10
        clear hall
        have m0 := hF0 rfl
        have m1 := hF1 rfl
        have m2 := hF2 rfl
        have m3 := hF3 rfl
        have m4 := hF4 rfl
        have m5 := hF5 rfl
        have m6 := hF6 rfl
        have m7 := hF7 rfl
        have m8 := hF8 rfl
        have m10 := hF10 rfl
        clear hF0 hF1 hF2 hF3 hF4 hF5 hF6 hF7 hF8 hF9 hF10
        obtain ⟨go, so, Ao, no, co, rfl, hgo, hko, heo⟩ := m8
        obtain rfl := heo rfl
        clear heo hgo
        have hio := m6
        obtain rfl := m7
        obtain rfl := m10
        clear m0 m1 m2 m3 m4 m5 m6
        have hka := hka.up hup
        have hkb := hkb.up hup
        have hke := hke.up hup
        have hia := hia.up hup
        have hib := hib.up hup
        have hie := hie.up hup
        have hupw := hupw.trans hup
        clear hup
        have hkaa := hka.cell (i := 0) rfl
        have hkab := hka.cell (i := 1) rfl
        have hkal := hka.lt
        have hkba := hkb.cell (i := 0) rfl
        have hkbb := hkb.cell (i := 1) rfl
        have hkbl := hkb.lt
        have hkea := hke.cell (i := 0) rfl
        have hkeb := hke.cell (i := 1) rfl
        have hkel := hke.lt
        have hkoa := hko.cell (i := 0) rfl
        have hkob := hko.cell (i := 1) rfl
        have hkol := hko.lt
        go_wp2_with fail
        clear hkaa hkab hkal hkba hkbb hkbl hkea hkeb hkel hkoa hkob hkol
        by_cases he1 : (x - z).natAbs < top300
        · skip
          have hq1 : (bndE (x - z) != 0) = false := by rw [(bnd_ok he1).2]; rfl
          by_cases he2 : (y - z).natAbs < top300
          · skip
            have hq2 : (bndE (y - z) != 0) = false := by rw [(bnd_ok he2).2]; rfl
            have HE1 := hide he1
            have HE2 := hide he2
            clear he1 he2
            refine region_inv (fun l a W => ∃ (b0 b1 b2 b3 b4 b5 b6 b7 b8 b9 b10 : Bool) (x5_0 x5_1 x5_2 x5_3 x5_4 x5_5 x5_6 x5_7 x5_8 x5_10 : Value), l = #[b0, b1, b2, b3, b4, b5, b6, b7, b8, b9, b10] ∧ a = { tmps := #[.agg #[.bool s, .slice A n c], .agg #[.bool t, .slice C m d], .agg #[.bool u, .slice E p f], .pointer (some ⟨w.heap.size, 0, none⟩), .pointer (some ⟨w.heap.size + 1, 0, none⟩), .pointer (some ⟨w.heap.size + 1 + 1, 0, none⟩), .bool false, .pointer (some ⟨ga, 0, none⟩), .pointer (some ⟨gb, 0, none⟩), .pointer (some ⟨ge, 0, none⟩), .int .i64 cn, .pointer (some ⟨go, 0, none⟩), .int .i64 (bndE (x - z)), x5_8, x5_10, .agg #[.bool s, .slice A n c], .agg #[.bool sa, .slice Aa na ca], .agg #[.bool t, .slice C m d], .agg #[.bool sb, .slice Ab nb cb], .agg #[.bool u, .slice E p f], .agg #[.bool se, .slice Ae ne ce], .bool true, .bool false, x3_0, x3_1, x3_2, x3_3, .int .i64 cn, .int .i64 cn, .agg #[.bool sa, .slice Aa na ca], .agg #[.bool sb, .slice Ab nb cb], .int .i64 cn, .bool false, .bool false, .agg #[.bool sb, .slice Ab nb cb], vb, .agg #[.bool sa, .slice Aa na ca], va, .int .i64 (-cn), .int .i64 cn, .int .i64 (-cn), .bool false, .bool false, .bool false, .agg #[.bool sa, .slice Aa na ca], vp, .agg #[.bool sa, .slice Aa na ca], vq, .int .i64 0, .bool false, .bool false, x4_5, x4_0, x4_1, x4_2, x4_3, x4_4, .agg #[.bool so, .slice Ao no co], .int .i64 (bndE (x - z)), x5_5, x5_0, x5_1, x5_2, x5_3, x5_4, x5_6, x5_7, undef, undef, undef, undef, undef, undef, undef, undef, undef, undef, undef, undef, undef], defers := [] } ∧ Up W4_ W ∧ (b0 = true → IsInt 0 W x5_0 (y)) ∧ (b1 = true → IsInt 0 W x5_1 (y)) ∧ (b2 = true → IsInt 0 W x5_2 (z)) ∧ (b3 = true → IsInt 0 W x5_3 (z)) ∧ (b4 = true → ∃ v0 : Value, x5_4 = .tuple #[v0, .int .i64 (bndE (y - z))] ∧ IsInt 0 W v0 (bnd (y - z))) ∧ (b5 = true → ∃ v0 : Value, x5_5 = .tuple #[v0, .int .i64 (bndE (y - z))] ∧ IsInt 0 W v0 (bnd (y - z))) ∧ (b6 = true → IsInt 0 W x5_6 (bnd (y - z))) ∧ (b7 = true → x5_7 = .int .i64 (bndE (y - z))) ∧ (b8 = true → Box (W4_.heap.size) W x5_8 b9 x5_6) ∧ (b9 = true → b8 = true ∧ b6 = true) ∧ (b10 = true → x5_10 = .int .i64 (bndE (y - z)))) (by kernel_rfl) (by kernel_rfl) ?hs ?h0 ?hstep ?hQ
            case hs => rintro l a W ⟨b0, b1, b2, b3, b4, b5, b6, b7, b8, b9, b10, x5_0, x5_1, x5_2, x5_3, x5_4, x5_5, x5_6, x5_7, x5_8, x5_10, rfl, rfl, hup, hF0, hF1, hF2, hF3, hF4, hF5, hF6, hF7, hF8, hF9, hF10⟩; rfl
            case h0 => exact ⟨false, false, false, false, false, false, false, false, false, false, false, undef, undef, undef, undef, undef, undef, undef, undef, undef, undef, rfl, rfl, (Up.refl W4_).drew, (fun h => by cases h), (fun h => by cases h), (fun h => by cases h), (fun h => by cases h), (fun h => by cases h), (fun h => by cases h), (fun h => by cases h), (fun h => by cases h), (fun h => by cases h), (fun h => by cases h), (fun h => by cases h)⟩
            case hstep =>
              rintro l a W ⟨b0, b1, b2, b3, b4, b5, b6, b7, b8, b9, b10, x5_0, x5_1, x5_2, x5_3, x5_4, x5_5, x5_6, x5_7, x5_8, x5_10, rfl, rfl, hup, hF0, hF1, hF2, hF3, hF4, hF5, hF6, hF7, hF8, hF9, hF10⟩ i hi
              have hlt : i < 11 := ready_lt hi
              have HF0 := hide hF0
              have HF1 := hide hF1
              have HF2 := hide hF2
              have HF3 := hide hF3
              have HF4 := hide hF4
              have HF5 := hide hF5
              have HF6 := hide hF6
              have HF7 := hide hF7
              have HF8 := hide hF8
              have HF9 := hide hF9
              have HF10 := hide hF10
              clear hF0 hF1 hF2 hF3 hF4 hF5 hF6 hF7 hF8 hF9 hF10
              have hcase : i = 0 ∨ i = 1 ∨ i = 2 ∨ i = 3 ∨ i = 4 ∨ i = 5 ∨ i = 6 ∨ i = 7 ∨ i = 8 ∨ i = 9 ∨ i = 10 := by omega
              clear hlt
              rcases hcase with rfl | rfl | rfl | rfl | rfl | rfl | rfl | rfl | rfl | rfl | rfl
              · skip
                have k0 := hkb.up hup
                have k1 := k0.cell (i := 0) rfl
                have k2 := k0.cell (i := 1) rfl
                clear hi
                refine wpOp_step rfl (fun K hK => ?_)
                go_simp
                refine hK _ _ ?_
                clear hK K
                exact ⟨true, b1, b2, b3, b4, b5, b6, b7, b8, b9, b10, .agg #[.bool sb, .slice Ab nb cb], x5_1, x5_2, x5_3, x5_4, x5_5, x5_6, x5_7, x5_8, x5_10, rfl, rfl, hup, (fun _ => hib.up hup), HF1.out, HF2.out, HF3.out, HF4.out, HF5.out, HF6.out, HF7.out, HF8.out, HF9.out, HF10.out⟩
              · skip
                have hb : b0 = true := getB (l := [b0, b1, b2, b3, b4, b5, b6, b7, b8, b9, b10]) (ready_dep hi rfl 0 (by kernel_rfl)) rfl
                have hx := hide (HF0.out hb)
                clear hb
                clear hi
                refine wpOp_step rfl (fun K hK => ?_)
                go_simp
                refine (ownI 0 _ _ _ hx.out (by assumption)).mono ?_
                rintro e w1 ⟨v1, rfl, hv1, hup1⟩
                go_wp2_with fail
                exact ⟨b0, true, b2, b3, b4, b5, b6, b7, b8, b9, b10, x5_0, v1, x5_2, x5_3, x5_4, x5_5, x5_6, x5_7, x5_8, x5_10, rfl, rfl, hup.trans hup1, (fun h => (HF0.out h).up hup1), (fun _ => hv1.mono (Nat.zero_le _)), (fun h => (HF2.out h).up hup1), (fun h => (HF3.out h).up hup1), (fun h => by obtain ⟨q0, rq, r0⟩ := HF4.out h; exact ⟨q0, rq, r0.up hup1⟩), (fun h => by obtain ⟨q0, rq, r0⟩ := HF5.out h; exact ⟨q0, rq, r0.up hup1⟩), (fun h => (HF6.out h).up hup1), HF7.out, (fun h => (HF8.out h).up hup1), HF9.out, HF10.out⟩
              · skip
                have k0 := hke.up hup
                have k1 := k0.cell (i := 0) rfl
                have k2 := k0.cell (i := 1) rfl
                clear hi
                refine wpOp_step rfl (fun K hK => ?_)
                go_simp
                refine hK _ _ ?_
                clear hK K
                exact ⟨b0, b1, true, b3, b4, b5, b6, b7, b8, b9, b10, x5_0, x5_1, .agg #[.bool se, .slice Ae ne ce], x5_3, x5_4, x5_5, x5_6, x5_7, x5_8, x5_10, rfl, rfl, hup, HF0.out, HF1.out, (fun _ => hie.up hup), HF3.out, HF4.out, HF5.out, HF6.out, HF7.out, HF8.out, HF9.out, HF10.out⟩
              · skip
                have hb : b2 = true := getB (l := [b0, b1, b2, b3, b4, b5, b6, b7, b8, b9, b10]) (ready_dep hi rfl 2 (by kernel_rfl)) rfl
                have hx := hide (HF2.out hb)
                clear hb
                clear hi
                refine wpOp_step rfl (fun K hK => ?_)
                go_simp
                refine (ownI 0 _ _ _ hx.out (by assumption)).mono ?_
                rintro e w1 ⟨v1, rfl, hv1, hup1⟩
                go_wp2_with fail
                exact ⟨b0, b1, b2, true, b4, b5, b6, b7, b8, b9, b10, x5_0, x5_1, x5_2, v1, x5_4, x5_5, x5_6, x5_7, x5_8, x5_10, rfl, rfl, hup.trans hup1, (fun h => (HF0.out h).up hup1), (fun h => (HF1.out h).up hup1), (fun h => (HF2.out h).up hup1), (fun _ => hv1.mono (Nat.zero_le _)), (fun h => by obtain ⟨q0, rq, r0⟩ := HF4.out h; exact ⟨q0, rq, r0.up hup1⟩), (fun h => by obtain ⟨q0, rq, r0⟩ := HF5.out h; exact ⟨q0, rq, r0.up hup1⟩), (fun h => (HF6.out h).up hup1), HF7.out, (fun h => (HF8.out h).up hup1), HF9.out, HF10.out⟩
              · skip
                have hb0q : b1 = true := getB (l := [b0, b1, b2, b3, b4, b5, b6, b7, b8, b9, b10]) (ready_dep hi rfl 1 (by kernel_rfl)) rfl
                have hx0 := hide (HF1.out hb0q)
                clear hb0q
                have hb1q : b3 = true := getB (l := [b0, b1, b2, b3, b4, b5, b6, b7, b8, b9, b10]) (ready_dep hi rfl 3 (by kernel_rfl)) rfl
                have hx1 := hide (HF3.out hb1q)
                clear hb1q
                clear hi
                refine wpOp_step rfl (fun K hK => ?_)
                go_simp
                refine (sub_any 0 0 _ _ y z _ hx0.out hx1.out htb hte).mono ?_
                rintro e w1 ⟨v0, rfl, hv0, hup1⟩
                go_wp2_with fail
                exact ⟨b0, b1, b2, b3, true, b5, b6, b7, b8, b9, b10, x5_0, x5_1, x5_2, x5_3, .tuple #[v0, .int .i64 (bndE (y - z))], x5_5, x5_6, x5_7, x5_8, x5_10, rfl, rfl, hup.trans hup1, (fun h => (HF0.out h).up hup1), (fun h => (HF1.out h).up hup1), (fun h => (HF2.out h).up hup1), (fun h => (HF3.out h).up hup1), (fun _ => ⟨v0, rfl, hv0.mono (Nat.zero_le _)⟩), (fun h => by obtain ⟨q0, rq, r0⟩ := HF5.out h; exact ⟨q0, rq, r0.up hup1⟩), (fun h => (HF6.out h).up hup1), HF7.out, (fun h => (HF8.out h).up hup1), HF9.out, HF10.out⟩
              · skip
                have hb : b4 = true := getB (l := [b0, b1, b2, b3, b4, b5, b6, b7, b8, b9, b10]) (ready_dep hi rfl 4 (by kernel_rfl)) rfl
                have hx := hide (HF4.out hb)
                clear hb
                clear hi
                refine wpOp_step rfl (fun K hK => ?_)
                go_simp
                refine hK _ _ ?_
                clear hK K
                exact ⟨b0, b1, b2, b3, b4, true, b6, b7, b8, b9, b10, x5_0, x5_1, x5_2, x5_3, x5_4, x5_4, x5_6, x5_7, x5_8, x5_10, rfl, rfl, hup, HF0.out, HF1.out, HF2.out, HF3.out, HF4.out, (fun _ => hx.out), HF6.out, HF7.out, HF8.out, HF9.out, HF10.out⟩
              · skip
                have hb : b5 = true := getB (l := [b0, b1, b2, b3, b4, b5, b6, b7, b8, b9, b10]) (ready_dep hi rfl 5 (by kernel_rfl)) rfl
                have Hb := hide hb
                obtain ⟨v0, hxe, hv0⟩ := HF5.out hb
                clear hb
                subst hxe
                have hn := ready_not hi
                have hst9 : b9 = false := by
                  cases e : b9 with
                  | false => rfl
                  | true => have h5 := (HF9.out e).2; rw [h5] at hn; cases hn
                have Hst9 := hide hst9
                clear hst9
                clear hn
                clear hi
                refine wpOp_step rfl (fun K hK => ?_)
                go_simp
                refine hK _ _ ?_
                clear hK K
                exact ⟨b0, b1, b2, b3, b4, b5, true, b7, b8, b9, b10, x5_0, x5_1, x5_2, x5_3, x5_4, .tuple #[v0, .int .i64 (bndE (y - z))], v0, x5_7, x5_8, x5_10, rfl, rfl, hup, HF0.out, HF1.out, HF2.out, HF3.out, HF4.out, HF5.out, (fun _ => hv0), HF7.out, (fun h => by rw [Hst9.out] at *; obtain ⟨g, s, A, n, c, h1, h2, h3, _⟩ := HF8.out h; exact ⟨g, s, A, n, c, h1, h2, h3.up (Up.refl _), fun h => by cases h⟩), (fun h => ⟨(HF9.out h).1, rfl⟩), HF10.out⟩
              · skip
                have hb : b5 = true := getB (l := [b0, b1, b2, b3, b4, b5, b6, b7, b8, b9, b10]) (ready_dep hi rfl 5 (by kernel_rfl)) rfl
                have Hb := hide hb
                obtain ⟨v0, hxe, hv0⟩ := HF5.out hb
                clear hb
                subst hxe
                clear hi
                refine wpOp_step rfl (fun K hK => ?_)
                go_simp
                refine hK _ _ ?_
                clear hK K
                exact ⟨b0, b1, b2, b3, b4, b5, b6, true, b8, b9, b10, x5_0, x5_1, x5_2, x5_3, x5_4, .tuple #[v0, .int .i64 (bndE (y - z))], x5_6, .int .i64 (bndE (y - z)), x5_8, x5_10, rfl, rfl, hup, HF0.out, HF1.out, HF2.out, HF3.out, HF4.out, HF5.out, HF6.out, (fun _ => rfl), HF8.out, HF9.out, HF10.out⟩
              · skip
                have hn := ready_not hi
                have hst9 : b9 = false := by
                  cases e : b9 with
                  | false => rfl
                  | true => have h5 := (HF9.out e).1; rw [h5] at hn; cases hn
                have Hst9 := hide hst9
                clear hst9
                clear hn
                clear hi
                have hsz := hup.size
                have hupA := (Up.refl W).alloc (.cells #[.bool false, .slice none 0 0] 24)
                refine wpOp_step rfl (fun K hK => ?_)
                go_simp
                refine hK _ _ ?_
                clear hK K
                exact ⟨b0, b1, b2, b3, b4, b5, b6, b7, true, b9, b10, x5_0, x5_1, x5_2, x5_3, x5_4, x5_5, x5_6, x5_7, .pointer (some ⟨W.heap.size, 0, none⟩), x5_10, rfl, rfl, hup.trans hupA, (fun h => (HF0.out h).up hupA), (fun h => (HF1.out h).up hupA), (fun h => (HF2.out h).up hupA), (fun h => (HF3.out h).up hupA), (fun h => by obtain ⟨q0, rq, r0⟩ := HF4.out h; exact ⟨q0, rq, r0.up hupA⟩), (fun h => by obtain ⟨q0, rq, r0⟩ := HF5.out h; exact ⟨q0, rq, r0.up hupA⟩), (fun h => (HF6.out h).up hupA), HF7.out, (fun _ => by rw [Hst9.out]; exact Box.new _ W _ hsz), (fun h => ⟨rfl, (HF9.out h).2⟩), HF10.out⟩
              · skip
                have hb2 : b8 = true := getB (l := [b0, b1, b2, b3, b4, b5, b6, b7, b8, b9, b10]) (ready_dep hi rfl 8 (by kernel_rfl)) rfl
                have hb1 : b6 = true := getB (l := [b0, b1, b2, b3, b4, b5, b6, b7, b8, b9, b10]) (ready_dep hi rfl 6 (by kernel_rfl)) rfl
                clear hi
                obtain ⟨s9, A9, n9, c9, hxc⟩ := (HF6.out hb1).agg
                subst hxc
                obtain ⟨g, s8, A8, n8, c8, hxb, hgB, hbk, _⟩ := HF8.out hb2
                subst hxb
                have f1 := hbk.cell (i := 0) rfl
                have f2 := hbk.cell (i := 1) rfl
                have f3 := hbk.frozen 0
                have f4 := hbk.frozen 1
                have Hb1 := hide hb1
                have Hb2 := hide hb2
                have hsz := hup.size
                clear hb1 hb2
                refine wpOp_step rfl (fun K hK => ?_)
                go_simp
                refine hK _ _ ?_
                clear hK K
                exact ⟨b0, b1, b2, b3, b4, b5, b6, b7, b8, true, b10, x5_0, x5_1, x5_2, x5_3, x5_4, x5_5, .agg #[.bool s9, .slice A9 n9 c9], x5_7, .pointer (some ⟨g, 0, none⟩), x5_10, rfl, rfl, hup.two (g := g) hgB _ _, (fun h => (HF0.out h).boxed hbk _ _), (fun h => (HF1.out h).boxed hbk _ _), (fun h => (HF2.out h).boxed hbk _ _), (fun h => (HF3.out h).boxed hbk _ _), (fun h => by obtain ⟨q0, rq, r0⟩ := HF4.out h; exact ⟨q0, rq, r0.boxed hbk _ _⟩), (fun h => by obtain ⟨q0, rq, r0⟩ := HF5.out h; exact ⟨q0, rq, r0.boxed hbk _ _⟩), (fun h => (HF6.out h).boxed hbk _ _), HF7.out, (fun _ => hbk.fill hgB), (fun _ => ⟨Hb2.out, Hb1.out⟩), HF10.out⟩
              · skip
                have hb : b7 = true := getB (l := [b0, b1, b2, b3, b4, b5, b6, b7, b8, b9, b10]) (ready_dep hi rfl 7 (by kernel_rfl)) rfl
                have hx := hide (HF7.out hb)
                clear hb
                clear hi
                refine wpOp_step rfl (fun K hK => ?_)
                go_simp
                refine hK _ _ ?_
                clear hK K
                exact ⟨b0, b1, b2, b3, b4, b5, b6, b7, b8, b9, true, x5_0, x5_1, x5_2, x5_3, x5_4, x5_5, x5_6, x5_7, x5_8, x5_7, rfl, rfl, hup, HF0.out, HF1.out, HF2.out, HF3.out, HF4.out, HF5.out, HF6.out, HF7.out, HF8.out, HF9.out, (fun _ => hx.out)⟩
            case hQ =>
              rintro l a W5_ ⟨b0, b1, b2, b3, b4, b5, b6, b7, b8, b9, b10, x5_0, x5_1, x5_2, x5_3, x5_4, x5_5, x5_6, x5_7, x5_8, x5_10, rfl, rfl, hup, hF0, hF1, hF2, hF3, hF4, hF5, hF6, hF7, hF8, hF9, hF10⟩ hall
              have hb0 : b0 = true := getB (l := [b0, b1, b2, b3, b4, b5, b6, b7, b8, b9, b10]) (hall 0 (by decide)) rfl
              have hb1 : b1 = true := getB (l := [b0, b1, b2, b3, b4, b5, b6, b7, b8, b9, b10]) (hall 1 (by decide)) rfl
              have hb2 : b2 = true := getB (l := [b0, b1, b2, b3, b4, b5, b6, b7, b8, b9, b10]) (hall 2 (by decide)) rfl
              have hb3 : b3 = true := getB (l := [b0, b1, b2, b3, b4, b5, b6, b7, b8, b9, b10]) (hall 3 (by decide)) rfl
              have hb4 : b4 = true := getB (l := [b0, b1, b2, b3, b4, b5, b6, b7, b8, b9, b10]) (hall 4 (by decide)) rfl
              have hb5 : b5 = true := getB (l := [b0, b1, b2, b3, b4, b5, b6, b7, b8, b9, b10]) (hall 5 (by decide)) rfl
              have hb6 : b6 = true := getB (l := [b0, b1, b2, b3, b4, b5, b6, b7, b8, b9, b10]) (hall 6 (by decide)) rfl
              have hb7 : b7 = true := getB (l := [b0, b1, b2, b3, b4, b5, b6, b7, b8, b9, b10]) (hall 7 (by decide)) rfl
              have hb8 : b8 = true := getB (l := [b0, b1, b2, b3, b4, b5, b6, b7, b8, b9, b10]) (hall 8 (by decide)) rfl
              have hb9 : b9 = true := getB (l := [b0, b1, b2, b3, b4, b5, b6, b7, b8, b9, b10]) (hall 9 (by decide)) rfl
              have hb10 : b10 = true := getB (l := [b0, b1, b2, b3, b4, b5, b6, b7, b8, b9, b10]) (hall 10 (by decide)) rfl
              subst hb0 hb1 hb2 hb3 hb4 hb5 hb6 hb7 hb8 hb9 hb10
              clear hall
              have m0 := hF0 rfl
              have m1 := hF1 rfl
              have m2 := hF2 rfl
              have m3 := hF3 rfl
              have m4 := hF4 rfl
              have m5 := hF5 rfl
              have m6 := hF6 rfl
              have m7 := hF7 rfl
              have m8 := hF8 rfl
              have m10 := hF10 rfl
              clear hF0 hF1 hF2 hF3 hF4 hF5 hF6 hF7 hF8 hF9 hF10
              obtain ⟨gr, sr, Ar, nr, cr, rfl, hgr, hkr, her⟩ := m8
              obtain rfl := her rfl
              clear her hgr
              have hir := m6
              obtain rfl := m7
              obtain rfl := m10
              clear m0 m1 m2 m3 m4 m5 m6
              have hka := hka.up hup
              have hkb := hkb.up hup
              have hke := hke.up hup
              have hko := hko.up hup
              have hia := hia.up hup
              have hib := hib.up hup
              have hie := hie.up hup
              have hio := hio.up hup
              have hupw := hupw.trans hup
              clear hup
              have hkaa := hka.cell (i := 0) rfl
              have hkab := hka.cell (i := 1) rfl
              have hkal := hka.lt
              have hkba := hkb.cell (i := 0) rfl
              have hkbb := hkb.cell (i := 1) rfl
              have hkbl := hkb.lt
              have hkea := hke.cell (i := 0) rfl
              have hkeb := hke.cell (i := 1) rfl
              have hkel := hke.lt
              have hkoa := hko.cell (i := 0) rfl
              have hkob := hko.cell (i := 1) rfl
              have hkol := hko.lt
              have hkra := hkr.cell (i := 0) rfl
              have hkrb := hkr.cell (i := 1) rfl
              have hkrl := hkr.lt
              go_wp2_with fail
              clear hkaa hkab hkal hkba hkbb hkbl hkea hkeb hkel hkoa hkob hkol hkra hkrb hkrl
              have HR : Hid (cn = cmpZ (bnd (x - z)) (bnd (y - z))) := by show _ = _; rw [(bnd_ok HE1.out).1, (bnd_ok HE2.out).1, cmpZ_sub]; exact Hcn.out
              refine (cmpA _ _ (bnd (x - z)) (bnd (y - z)) cn _ hio hir (bnd_lt _) (bnd_lt _) HR).mono ?_
              rintro e w6_ ⟨rfl, hup⟩
              have hka := hka.up hup
              have hkb := hkb.up hup
              have hke := hke.up hup
              have hko := hko.up hup
              have hkr := hkr.up hup
              have hia := hia.up hup
              have hib := hib.up hup
              have hie := hie.up hup
              have hio := hio.up hup
              have hir := hir.up hup
              have hupw := hupw.trans hup
              clear hup
              have hkaa := hka.cell (i := 0) rfl
              have hkab := hka.cell (i := 1) rfl
              have hkal := hka.lt
              have hkba := hkb.cell (i := 0) rfl
              have hkbb := hkb.cell (i := 1) rfl
              have hkbl := hkb.lt
              have hkea := hke.cell (i := 0) rfl
              have hkeb := hke.cell (i := 1) rfl
              have hkel := hke.lt
              have hkoa := hko.cell (i := 0) rfl
              have hkob := hko.cell (i := 1) rfl
              have hkol := hko.lt
              have hkra := hkr.cell (i := 0) rfl
              have hkrb := hkr.cell (i := 1) rfl
              have hkrl := hkr.lt
              go_wp2_with fail
              clear hkaa hkab hkal hkba hkbb hkbl hkea hkeb hkel hkoa hkob hkol hkra hkrb hkrl
              go_ret
              exact ⟨rfl, hupw⟩
          · skip
            have hq2 : (bndE (y - z) != 0) = true := by rw [(bnd_no he2).2]; rfl
            clear he1 he2
            refine region_inv (fun l a W => ∃ (b0 b1 b2 b3 b4 b5 b6 b7 b8 b9 b10 : Bool) (x5_0 x5_1 x5_2 x5_3 x5_4 x5_5 x5_6 x5_7 x5_8 x5_10 : Value), l = #[b0, b1, b2, b3, b4, b5, b6, b7, b8, b9, b10] ∧ a = { tmps := #[.agg #[.bool s, .slice A n c], .agg #[.bool t, .slice C m d], .agg #[.bool u, .slice E p f], .pointer (some ⟨w.heap.size, 0, none⟩), .pointer (some ⟨w.heap.size + 1, 0, none⟩), .pointer (some ⟨w.heap.size + 1 + 1, 0, none⟩), .bool false, .pointer (some ⟨ga, 0, none⟩), .pointer (some ⟨gb, 0, none⟩), .pointer (some ⟨ge, 0, none⟩), .int .i64 cn, .pointer (some ⟨go, 0, none⟩), .int .i64 (bndE (x - z)), x5_8, x5_10, .agg #[.bool s, .slice A n c], .agg #[.bool sa, .slice Aa na ca], .agg #[.bool t, .slice C m d], .agg #[.bool sb, .slice Ab nb cb], .agg #[.bool u, .slice E p f], .agg #[.bool se, .slice Ae ne ce], .bool true, .bool false, x3_0, x3_1, x3_2, x3_3, .int .i64 cn, .int .i64 cn, .agg #[.bool sa, .slice Aa na ca], .agg #[.bool sb, .slice Ab nb cb], .int .i64 cn, .bool false, .bool false, .agg #[.bool sb, .slice Ab nb cb], vb, .agg #[.bool sa, .slice Aa na ca], va, .int .i64 (-cn), .int .i64 cn, .int .i64 (-cn), .bool false, .bool false, .bool false, .agg #[.bool sa, .slice Aa na ca], vp, .agg #[.bool sa, .slice Aa na ca], vq, .int .i64 0, .bool false, .bool false, x4_5, x4_0, x4_1, x4_2, x4_3, x4_4, .agg #[.bool so, .slice Ao no co], .int .i64 (bndE (x - z)), x5_5, x5_0, x5_1, x5_2, x5_3, x5_4, x5_6, x5_7, undef, undef, undef, undef, undef, undef, undef, undef, undef, undef, undef, undef, undef], defers := [] } ∧ Up W4_ W ∧ (b0 = true → IsInt 0 W x5_0 (y)) ∧ (b1 = true → IsInt 0 W x5_1 (y)) ∧ (b2 = true → IsInt 0 W x5_2 (z)) ∧ (b3 = true → IsInt 0 W x5_3 (z)) ∧ (b4 = true → ∃ v0 : Value, x5_4 = .tuple #[v0, .int .i64 (bndE (y - z))] ∧ IsInt 0 W v0 (bnd (y - z))) ∧ (b5 = true → ∃ v0 : Value, x5_5 = .tuple #[v0, .int .i64 (bndE (y - z))] ∧ IsInt 0 W v0 (bnd (y - z))) ∧ (b6 = true → IsInt 0 W x5_6 (bnd (y - z))) ∧ (b7 = true → x5_7 = .int .i64 (bndE (y - z))) ∧ (b8 = true → Box (W4_.heap.size) W x5_8 b9 x5_6) ∧ (b9 = true → b8 = true ∧ b6 = true) ∧ (b10 = true → x5_10 = .int .i64 (bndE (y - z)))) (by kernel_rfl) (by kernel_rfl) ?hs ?h0 ?hstep ?hQ
            case hs => rintro l a W ⟨b0, b1, b2, b3, b4, b5, b6, b7, b8, b9, b10, x5_0, x5_1, x5_2, x5_3, x5_4, x5_5, x5_6, x5_7, x5_8, x5_10, rfl, rfl, hup, hF0, hF1, hF2, hF3, hF4, hF5, hF6, hF7, hF8, hF9, hF10⟩; rfl
            case h0 => exact ⟨false, false, false, false, false, false, false, false, false, false, false, undef, undef, undef, undef, undef, undef, undef, undef, undef, undef, rfl, rfl, (Up.refl W4_).drew, (fun h => by cases h), (fun h => by cases h), (fun h => by cases h), (fun h => by cases h), (fun h => by cases h), (fun h => by cases h), (fun h => by cases h), (fun h => by cases h), (fun h => by cases h), (fun h => by cases h), (fun h => by cases h)⟩
            case hstep =>
              rintro l a W ⟨b0, b1, b2, b3, b4, b5, b6, b7, b8, b9, b10, x5_0, x5_1, x5_2, x5_3, x5_4, x5_5, x5_6, x5_7, x5_8, x5_10, rfl, rfl, hup, hF0, hF1, hF2, hF3, hF4, hF5, hF6, hF7, hF8, hF9, hF10⟩ i hi
              have hlt : i < 11 := ready_lt hi
              have HF0 := hide hF0
              have HF1 := hide hF1
              have HF2 := hide hF2
              have HF3 := hide hF3
              have HF4 := hide hF4
              have HF5 := hide hF5
              have HF6 := hide hF6
              have HF7 := hide hF7
              have HF8 := hide hF8
              have HF9 := hide hF9
              have HF10 := hide hF10
              clear hF0 hF1 hF2 hF3 hF4 hF5 hF6 hF7 hF8 hF9 hF10
              have hcase : i = 0 ∨ i = 1 ∨ i = 2 ∨ i = 3 ∨ i = 4 ∨ i = 5 ∨ i = 6 ∨ i = 7 ∨ i = 8 ∨ i = 9 ∨ i = 10 := by omega
              clear hlt
              rcases hcase with rfl | rfl | rfl | rfl | rfl | rfl | rfl | rfl | rfl | rfl | rfl
              · skip
                have k0 := hkb.up hup
                have k1 := k0.cell (i := 0) rfl
                have k2 := k0.cell (i := 1) rfl
                clear hi
                refine wpOp_step rfl (fun K hK => ?_)
                go_simp
                refine hK _ _ ?_
                clear hK K
                exact ⟨true, b1, b2, b3, b4, b5, b6, b7, b8, b9, b10, .agg #[.bool sb, .slice Ab nb cb], x5_1, x5_2, x5_3, x5_4, x5_5, x5_6, x5_7, x5_8, x5_10, rfl, rfl, hup, (fun _ => hib.up hup), HF1.out, HF2.out, HF3.out, HF4.out, HF5.out, HF6.out, HF7.out, HF8.out, HF9.out, HF10.out⟩
              · skip
                have hb : b0 = true := getB (l := [b0, b1, b2, b3, b4, b5, b6, b7, b8, b9, b10]) (ready_dep hi rfl 0 (by kernel_rfl)) rfl
                have hx := hide (HF0.out hb)
                clear hb
                clear hi
                refine wpOp_step rfl (fun K hK => ?_)
                go_simp
                refine (ownI 0 _ _ _ hx.out (by assumption)).mono ?_
                rintro e w1 ⟨v1, rfl, hv1, hup1⟩
                go_wp2_with fail
                exact ⟨b0, true, b2, b3, b4, b5, b6, b7, b8, b9, b10, x5_0, v1, x5_2, x5_3, x5_4, x5_5, x5_6, x5_7, x5_8, x5_10, rfl, rfl, hup.trans hup1, (fun h => (HF0.out h).up hup1), (fun _ => hv1.mono (Nat.zero_le _)), (fun h => (HF2.out h).up hup1), (fun h => (HF3.out h).up hup1), (fun h => by obtain ⟨q0, rq, r0⟩ := HF4.out h; exact ⟨q0, rq, r0.up hup1⟩), (fun h => by obtain ⟨q0, rq, r0⟩ := HF5.out h; exact ⟨q0, rq, r0.up hup1⟩), (fun h => (HF6.out h).up hup1), HF7.out, (fun h => (HF8.out h).up hup1), HF9.out, HF10.out⟩
              · skip
                have k0 := hke.up hup
                have k1 := k0.cell (i := 0) rfl
                have k2 := k0.cell (i := 1) rfl
                clear hi
                refine wpOp_step rfl (fun K hK => ?_)
                go_simp
                refine hK _ _ ?_
                clear hK K
                exact ⟨b0, b1, true, b3, b4, b5, b6, b7, b8, b9, b10, x5_0, x5_1, .agg #[.bool se, .slice Ae ne ce], x5_3, x5_4, x5_5, x5_6, x5_7, x5_8, x5_10, rfl, rfl, hup, HF0.out, HF1.out, (fun _ => hie.up hup), HF3.out, HF4.out, HF5.out, HF6.out, HF7.out, HF8.out, HF9.out, HF10.out⟩
              · skip
                have hb : b2 = true := getB (l := [b0, b1, b2, b3, b4, b5, b6, b7, b8, b9, b10]) (ready_dep hi rfl 2 (by kernel_rfl)) rfl
                have hx := hide (HF2.out hb)
                clear hb
                clear hi
                refine wpOp_step rfl (fun K hK => ?_)
                go_simp
                refine (ownI 0 _ _ _ hx.out (by assumption)).mono ?_
                rintro e w1 ⟨v1, rfl, hv1, hup1⟩
                go_wp2_with fail
                exact ⟨b0, b1, b2, true, b4, b5, b6, b7, b8, b9, b10, x5_0, x5_1, x5_2, v1, x5_4, x5_5, x5_6, x5_7, x5_8, x5_10, rfl, rfl, hup.trans hup1, (fun h => (HF0.out h).up hup1), (fun h => (HF1.out h).up hup1), (fun h => (HF2.out h).up hup1), (fun _ => hv1.mono (Nat.zero_le _)), (fun h => by obtain ⟨q0, rq, r0⟩ := HF4.out h; exact ⟨q0, rq, r0.up hup1⟩), (fun h => by obtain ⟨q0, rq, r0⟩ := HF5.out h; exact ⟨q0, rq, r0.up hup1⟩), (fun h => (HF6.out h).up hup1), HF7.out, (fun h => (HF8.out h).up hup1), HF9.out, HF10.out⟩
              · skip
                have hb0q : b1 = true := getB (l := [b0, b1, b2, b3, b4, b5, b6, b7, b8, b9, b10]) (ready_dep hi rfl 1 (by kernel_rfl)) rfl
                have hx0 := hide (HF1.out hb0q)
                clear hb0q
                have hb1q : b3 = true := getB (l := [b0, b1, b2, b3, b4, b5, b6, b7, b8, b9, b10]) (ready_dep hi rfl 3 (by kernel_rfl)) rfl
                have hx1 := hide (HF3.out hb1q)
                clear hb1q
                clear hi
                refine wpOp_step rfl (fun K hK => ?_)
                go_simp
                refine (sub_any 0 0 _ _ y z _ hx0.out hx1.out htb hte).mono ?_
                rintro e w1 ⟨v0, rfl, hv0, hup1⟩
                go_wp2_with fail
                exact ⟨b0, b1, b2, b3, true, b5, b6, b7, b8, b9, b10, x5_0, x5_1, x5_2, x5_3, .tuple #[v0, .int .i64 (bndE (y - z))], x5_5, x5_6, x5_7, x5_8, x5_10, rfl, rfl, hup.trans hup1, (fun h => (HF0.out h).up hup1), (fun h => (HF1.out h).up hup1), (fun h => (HF2.out h).up hup1), (fun h => (HF3.out h).up hup1), (fun _ => ⟨v0, rfl, hv0.mono (Nat.zero_le _)⟩), (fun h => by obtain ⟨q0, rq, r0⟩ := HF5.out h; exact ⟨q0, rq, r0.up hup1⟩), (fun h => (HF6.out h).up hup1), HF7.out, (fun h => (HF8.out h).up hup1), HF9.out, HF10.out⟩
              · skip
                have hb : b4 = true := getB (l := [b0, b1, b2, b3, b4, b5, b6, b7, b8, b9, b10]) (ready_dep hi rfl 4 (by kernel_rfl)) rfl
                have hx := hide (HF4.out hb)
                clear hb
                clear hi
                refine wpOp_step rfl (fun K hK => ?_)
                go_simp
                refine hK _ _ ?_
                clear hK K
                exact ⟨b0, b1, b2, b3, b4, true, b6, b7, b8, b9, b10, x5_0, x5_1, x5_2, x5_3, x5_4, x5_4, x5_6, x5_7, x5_8, x5_10, rfl, rfl, hup, HF0.out, HF1.out, HF2.out, HF3.out, HF4.out, (fun _ => hx.out), HF6.out, HF7.out, HF8.out, HF9.out, HF10.out⟩
              · skip
                have hb : b5 = true := getB (l := [b0, b1, b2, b3, b4, b5, b6, b7, b8, b9, b10]) (ready_dep hi rfl 5 (by kernel_rfl)) rfl
                have Hb := hide hb
                obtain ⟨v0, hxe, hv0⟩ := HF5.out hb
                clear hb
                subst hxe
                have hn := ready_not hi
                have hst9 : b9 = false := by
                  cases e : b9 with
                  | false => rfl
                  | true => have h5 := (HF9.out e).2; rw [h5] at hn; cases hn
                have Hst9 := hide hst9
                clear hst9
                clear hn
                clear hi
                refine wpOp_step rfl (fun K hK => ?_)
                go_simp
                refine hK _ _ ?_
                clear hK K
                exact ⟨b0, b1, b2, b3, b4, b5, true, b7, b8, b9, b10, x5_0, x5_1, x5_2, x5_3, x5_4, .tuple #[v0, .int .i64 (bndE (y - z))], v0, x5_7, x5_8, x5_10, rfl, rfl, hup, HF0.out, HF1.out, HF2.out, HF3.out, HF4.out, HF5.out, (fun _ => hv0), HF7.out, (fun h => by rw [Hst9.out] at *; obtain ⟨g, s, A, n, c, h1, h2, h3, _⟩ := HF8.out h; exact ⟨g, s, A, n, c, h1, h2, h3.up (Up.refl _), fun h => by cases h⟩), (fun h => ⟨(HF9.out h).1, rfl⟩), HF10.out⟩
              · skip
                have hb : b5 = true := getB (l := [b0, b1, b2, b3, b4, b5, b6, b7, b8, b9, b10]) (ready_dep hi rfl 5 (by kernel_rfl)) rfl
                have Hb := hide hb
                obtain ⟨v0, hxe, hv0⟩ := HF5.out hb
                clear hb
                subst hxe
                clear hi
                refine wpOp_step rfl (fun K hK => ?_)
                go_simp
                refine hK _ _ ?_
                clear hK K
                exact ⟨b0, b1, b2, b3, b4, b5, b6, true, b8, b9, b10, x5_0, x5_1, x5_2, x5_3, x5_4, .tuple #[v0, .int .i64 (bndE (y - z))], x5_6, .int .i64 (bndE (y - z)), x5_8, x5_10, rfl, rfl, hup, HF0.out, HF1.out, HF2.out, HF3.out, HF4.out, HF5.out, HF6.out, (fun _ => rfl), HF8.out, HF9.out, HF10.out⟩
              · skip
                have hn := ready_not hi
                have hst9 : b9 = false := by
                  cases e : b9 with
                  | false => rfl
                  | true => have h5 := (HF9.out e).1; rw [h5] at hn; cases hn
                have Hst9 := hide hst9
                clear hst9
                clear hn
                clear hi
                have hsz := hup.size
                have hupA := (Up.refl W).alloc (.cells #[.bool false, .slice none 0 0] 24)
                refine wpOp_step rfl (fun K hK => ?_)
                go_simp
                refine hK _ _ ?_
                clear hK K
                exact ⟨b0, b1, b2, b3, b4, b5, b6, b7, true, b9, b10, x5_0, x5_1, x5_2, x5_3, x5_4, x5_5, x5_6, x5_7, .pointer (some ⟨W.heap.size, 0, none⟩), x5_10, rfl, rfl, hup.trans hupA, (fun h => (HF0.out h).up hupA), (fun h => (HF1.out h).up hupA), (fun h => (HF2.out h).up hupA), (fun h => (HF3.out h).up hupA), (fun h => by obtain ⟨q0, rq, r0⟩ := HF4.out h; exact ⟨q0, rq, r0.up hupA⟩), (fun h => by obtain ⟨q0, rq, r0⟩ := HF5.out h; exact ⟨q0, rq, r0.up hupA⟩), (fun h => (HF6.out h).up hupA), HF7.out, (fun _ => by rw [Hst9.out]; exact Box.new _ W _ hsz), (fun h => ⟨rfl, (HF9.out h).2⟩), HF10.out⟩
              · skip
                have hb2 : b8 = true := getB (l := [b0, b1, b2, b3, b4, b5, b6, b7, b8, b9, b10]) (ready_dep hi rfl 8 (by kernel_rfl)) rfl
                have hb1 : b6 = true := getB (l := [b0, b1, b2, b3, b4, b5, b6, b7, b8, b9, b10]) (ready_dep hi rfl 6 (by kernel_rfl)) rfl
                clear hi
                obtain ⟨s9, A9, n9, c9, hxc⟩ := (HF6.out hb1).agg
                subst hxc
                obtain ⟨g, s8, A8, n8, c8, hxb, hgB, hbk, _⟩ := HF8.out hb2
                subst hxb
                have f1 := hbk.cell (i := 0) rfl
                have f2 := hbk.cell (i := 1) rfl
                have f3 := hbk.frozen 0
                have f4 := hbk.frozen 1
                have Hb1 := hide hb1
                have Hb2 := hide hb2
                have hsz := hup.size
                clear hb1 hb2
                refine wpOp_step rfl (fun K hK => ?_)
                go_simp
                refine hK _ _ ?_
                clear hK K
                exact ⟨b0, b1, b2, b3, b4, b5, b6, b7, b8, true, b10, x5_0, x5_1, x5_2, x5_3, x5_4, x5_5, .agg #[.bool s9, .slice A9 n9 c9], x5_7, .pointer (some ⟨g, 0, none⟩), x5_10, rfl, rfl, hup.two (g := g) hgB _ _, (fun h => (HF0.out h).boxed hbk _ _), (fun h => (HF1.out h).boxed hbk _ _), (fun h => (HF2.out h).boxed hbk _ _), (fun h => (HF3.out h).boxed hbk _ _), (fun h => by obtain ⟨q0, rq, r0⟩ := HF4.out h; exact ⟨q0, rq, r0.boxed hbk _ _⟩), (fun h => by obtain ⟨q0, rq, r0⟩ := HF5.out h; exact ⟨q0, rq, r0.boxed hbk _ _⟩), (fun h => (HF6.out h).boxed hbk _ _), HF7.out, (fun _ => hbk.fill hgB), (fun _ => ⟨Hb2.out, Hb1.out⟩), HF10.out⟩
              · skip
                have hb : b7 = true := getB (l := [b0, b1, b2, b3, b4, b5, b6, b7, b8, b9, b10]) (ready_dep hi rfl 7 (by kernel_rfl)) rfl
                have hx := hide (HF7.out hb)
                clear hb
                clear hi
                refine wpOp_step rfl (fun K hK => ?_)
                go_simp
                refine hK _ _ ?_
                clear hK K
                exact ⟨b0, b1, b2, b3, b4, b5, b6, b7, b8, b9, true, x5_0, x5_1, x5_2, x5_3, x5_4, x5_5, x5_6, x5_7, x5_8, x5_7, rfl, rfl, hup, HF0.out, HF1.out, HF2.out, HF3.out, HF4.out, HF5.out, HF6.out, HF7.out, HF8.out, HF9.out, (fun _ => hx.out)⟩
            case hQ =>
              rintro l a W5_ ⟨b0, b1, b2, b3, b4, b5, b6, b7, b8, b9, b10, x5_0, x5_1, x5_2, x5_3, x5_4, x5_5, x5_6, x5_7, x5_8, x5_10, rfl, rfl, hup, hF0, hF1, hF2, hF3, hF4, hF5, hF6, hF7, hF8, hF9, hF10⟩ hall
              have hb0 : b0 = true := getB (l := [b0, b1, b2, b3, b4, b5, b6, b7, b8, b9, b10]) (hall 0 (by decide)) rfl
              have hb1 : b1 = true := getB (l := [b0, b1, b2, b3, b4, b5, b6, b7, b8, b9, b10]) (hall 1 (by decide)) rfl
              have hb2 : b2 = true := getB (l := [b0, b1, b2, b3, b4, b5, b6, b7, b8, b9, b10]) (hall 2 (by decide)) rfl
              have hb3 : b3 = true := getB (l := [b0, b1, b2, b3, b4, b5, b6, b7, b8, b9, b10]) (hall 3 (by decide)) rfl
              have hb4 : b4 = true := getB (l := [b0, b1, b2, b3, b4, b5, b6, b7, b8, b9, b10]) (hall 4 (by decide)) rfl
              have hb5 : b5 = true := getB (l := [b0, b1, b2, b3, b4, b5, b6, b7, b8, b9, b10]) (hall 5 (by decide)) rfl
              have hb6 : b6 = true := getB (l := [b0, b1, b2, b3, b4, b5, b6, b7, b8, b9, b10]) (hall 6 (by decide)) rfl
              have hb7 : b7 = true := getB (l := [b0, b1, b2, b3, b4, b5, b6, b7, b8, b9, b10]) (hall 7 (by decide)) rfl
              have hb8 : b8 = true := getB (l := [b0, b1, b2, b3, b4, b5, b6, b7, b8, b9, b10]) (hall 8 (by decide)) rfl
              have hb9 : b9 = true := getB (l := [b0, b1, b2, b3, b4, b5, b6, b7, b8, b9, b10]) (hall 9 (by decide)) rfl
              have hb10 : b10 = true := getB (l := [b0, b1, b2, b3, b4, b5, b6, b7, b8, b9, b10]) (hall 10 (by decide)) rfl
              subst hb0 hb1 hb2 hb3 hb4 hb5 hb6 hb7 hb8 hb9 hb10
              clear hall
              have m0 := hF0 rfl
              have m1 := hF1 rfl
              have m2 := hF2 rfl
              have m3 := hF3 rfl
              have m4 := hF4 rfl
              have m5 := hF5 rfl
              have m6 := hF6 rfl
              have m7 := hF7 rfl
              have m8 := hF8 rfl
              have m10 := hF10 rfl
              clear hF0 hF1 hF2 hF3 hF4 hF5 hF6 hF7 hF8 hF9 hF10
              obtain ⟨gr, sr, Ar, nr, cr, rfl, hgr, hkr, her⟩ := m8
              obtain rfl := her rfl
              clear her hgr
              have hir := m6
              obtain rfl := m7
              obtain rfl := m10
              clear m0 m1 m2 m3 m4 m5 m6
              have hka := hka.up hup
              have hkb := hkb.up hup
              have hke := hke.up hup
              have hko := hko.up hup
              have hia := hia.up hup
              have hib := hib.up hup
              have hie := hie.up hup
              have hio := hio.up hup
              have hupw := hupw.trans hup
              clear hup
              have hkaa := hka.cell (i := 0) rfl
              have hkab := hka.cell (i := 1) rfl
              have hkal := hka.lt
              have hkba := hkb.cell (i := 0) rfl
              have hkbb := hkb.cell (i := 1) rfl
              have hkbl := hkb.lt
              have hkea := hke.cell (i := 0) rfl
              have hkeb := hke.cell (i := 1) rfl
              have hkel := hke.lt
              have hkoa := hko.cell (i := 0) rfl
              have hkob := hko.cell (i := 1) rfl
              have hkol := hko.lt
              have hkra := hkr.cell (i := 0) rfl
              have hkrb := hkr.cell (i := 1) rfl
              have hkrl := hkr.lt
              go_wp2_with fail
              clear hkaa hkab hkal hkba hkbb hkbl hkea hkeb hkel hkoa hkob hkol hkra hkrb hkrl
              go_ret
              exact ⟨rfl, hupw⟩
        · skip
          have hq1 : (bndE (x - z) != 0) = true := by rw [(bnd_no he1).2]; rfl
          clear he1
          refine region_inv (fun l a W => ∃ (b0 b1 b2 b3 b4 b5 b6 b7 b8 b9 b10 : Bool) (x5_0 x5_1 x5_2 x5_3 x5_4 x5_5 x5_6 x5_7 x5_8 x5_10 : Value), l = #[b0, b1, b2, b3, b4, b5, b6, b7, b8, b9, b10] ∧ a = { tmps := #[.agg #[.bool s, .slice A n c], .agg #[.bool t, .slice C m d], .agg #[.bool u, .slice E p f], .pointer (some ⟨w.heap.size, 0, none⟩), .pointer (some ⟨w.heap.size + 1, 0, none⟩), .pointer (some ⟨w.heap.size + 1 + 1, 0, none⟩), .bool false, .pointer (some ⟨ga, 0, none⟩), .pointer (some ⟨gb, 0, none⟩), .pointer (some ⟨ge, 0, none⟩), .int .i64 cn, .pointer (some ⟨go, 0, none⟩), .int .i64 (bndE (x - z)), x5_8, x5_10, .agg #[.bool s, .slice A n c], .agg #[.bool sa, .slice Aa na ca], .agg #[.bool t, .slice C m d], .agg #[.bool sb, .slice Ab nb cb], .agg #[.bool u, .slice E p f], .agg #[.bool se, .slice Ae ne ce], .bool true, .bool false, x3_0, x3_1, x3_2, x3_3, .int .i64 cn, .int .i64 cn, .agg #[.bool sa, .slice Aa na ca], .agg #[.bool sb, .slice Ab nb cb], .int .i64 cn, .bool false, .bool false, .agg #[.bool sb, .slice Ab nb cb], vb, .agg #[.bool sa, .slice Aa na ca], va, .int .i64 (-cn), .int .i64 cn, .int .i64 (-cn), .bool false, .bool false, .bool false, .agg #[.bool sa, .slice Aa na ca], vp, .agg #[.bool sa, .slice Aa na ca], vq, .int .i64 0, .bool false, .bool false, x4_5, x4_0, x4_1, x4_2, x4_3, x4_4, .agg #[.bool so, .slice Ao no co], .int .i64 (bndE (x - z)), x5_5, x5_0, x5_1, x5_2, x5_3, x5_4, x5_6, x5_7, undef, undef, undef, undef, undef, undef, undef, undef, undef, undef, undef, undef, undef], defers := [] } ∧ Up W4_ W ∧ (b0 = true → IsInt 0 W x5_0 (y)) ∧ (b1 = true → IsInt 0 W x5_1 (y)) ∧ (b2 = true → IsInt 0 W x5_2 (z)) ∧ (b3 = true → IsInt 0 W x5_3 (z)) ∧ (b4 = true → ∃ v0 : Value, x5_4 = .tuple #[v0, .int .i64 (bndE (y - z))] ∧ IsInt 0 W v0 (bnd (y - z))) ∧ (b5 = true → ∃ v0 : Value, x5_5 = .tuple #[v0, .int .i64 (bndE (y - z))] ∧ IsInt 0 W v0 (bnd (y - z))) ∧ (b6 = true → IsInt 0 W x5_6 (bnd (y - z))) ∧ (b7 = true → x5_7 = .int .i64 (bndE (y - z))) ∧ (b8 = true → Box (W4_.heap.size) W x5_8 b9 x5_6) ∧ (b9 = true → b8 = true ∧ b6 = true) ∧ (b10 = true → x5_10 = .int .i64 (bndE (y - z)))) (by kernel_rfl) (by kernel_rfl) ?hs ?h0 ?hstep ?hQ
          case hs => rintro l a W ⟨b0, b1, b2, b3, b4, b5, b6, b7, b8, b9, b10, x5_0, x5_1, x5_2, x5_3, x5_4, x5_5, x5_6, x5_7, x5_8, x5_10, rfl, rfl, hup, hF0, hF1, hF2, hF3, hF4, hF5, hF6, hF7, hF8, hF9, hF10⟩; rfl
          case h0 => exact ⟨false, false, false, false, false, false, false, false, false, false, false, undef, undef, undef, undef, undef, undef, undef, undef, undef, undef, rfl, rfl, (Up.refl W4_).drew, (fun h => by cases h), (fun h => by cases h), (fun h => by cases h), (fun h => by cases h), (fun h => by cases h), (fun h => by cases h), (fun h => by cases h), (fun h => by cases h), (fun h => by cases h), (fun h => by cases h), (fun h => by cases h)⟩
          case hstep =>
            rintro l a W ⟨b0, b1, b2, b3, b4, b5, b6, b7, b8, b9, b10, x5_0, x5_1, x5_2, x5_3, x5_4, x5_5, x5_6, x5_7, x5_8, x5_10, rfl, rfl, hup, hF0, hF1, hF2, hF3, hF4, hF5, hF6, hF7, hF8, hF9, hF10⟩ i hi
            have hlt : i < 11 := ready_lt hi
            have HF0 := hide hF0
            have HF1 := hide hF1
            have HF2 := hide hF2
            have HF3 := hide hF3
            have HF4 := hide hF4
            have HF5 := hide hF5
            have HF6 := hide hF6
            have HF7 := hide hF7
            have HF8 := hide hF8
            have HF9 := hide hF9
            have HF10 := hide hF10
            clear hF0 hF1 hF2 hF3 hF4 hF5 hF6 hF7 hF8 hF9 hF10
            have hcase : i = 0 ∨ i = 1 ∨ i = 2 ∨ i = 3 ∨ i = 4 ∨ i = 5 ∨ i = 6 ∨ i = 7 ∨ i = 8 ∨ i = 9 ∨ i = 10 := by omega
            clear hlt
            rcases hcase with rfl | rfl | rfl | rfl | rfl | rfl | rfl | rfl | rfl | rfl | rfl
            · skip
              have k0 := hkb.up hup
              have k1 := k0.cell (i := 0) rfl
              have k2 := k0.cell (i := 1) rfl
              clear hi
              refine wpOp_step rfl (fun K hK => ?_)
              go_simp
              refine hK _ _ ?_
              clear hK K
              exact ⟨true, b1, b2, b3, b4, b5, b6, b7, b8, b9, b10, .agg #[.bool sb, .slice Ab nb cb], x5_1, x5_2, x5_3, x5_4, x5_5, x5_6, x5_7, x5_8, x5_10, rfl, rfl, hup, (fun _ => hib.up hup), HF1.out, HF2.out, HF3.out, HF4.out, HF5.out, HF6.out, HF7.out, HF8.out, HF9.out, HF10.out⟩
            · skip
              have hb : b0 = true := getB (l := [b0, b1, b2, b3, b4, b5, b6, b7, b8, b9, b10]) (ready_dep hi rfl 0 (by kernel_rfl)) rfl
              have hx := hide (HF0.out hb)
              clear hb
              clear hi
              refine wpOp_step rfl (fun K hK => ?_)
              go_simp
              refine (ownI 0 _ _ _ hx.out (by assumption)).mono ?_
              rintro e w1 ⟨v1, rfl, hv1, hup1⟩
              go_wp2_with fail
              exact ⟨b0, true, b2, b3, b4, b5, b6, b7, b8, b9, b10, x5_0, v1, x5_2, x5_3, x5_4, x5_5, x5_6, x5_7, x5_8, x5_10, rfl, rfl, hup.trans hup1, (fun h => (HF0.out h).up hup1), (fun _ => hv1.mono (Nat.zero_le _)), (fun h => (HF2.out h).up hup1), (fun h => (HF3.out h).up hup1), (fun h => by obtain ⟨q0, rq, r0⟩ := HF4.out h; exact ⟨q0, rq, r0.up hup1⟩), (fun h => by obtain ⟨q0, rq, r0⟩ := HF5.out h; exact ⟨q0, rq, r0.up hup1⟩), (fun h => (HF6.out h).up hup1), HF7.out, (fun h => (HF8.out h).up hup1), HF9.out, HF10.out⟩
            · skip
              have k0 := hke.up hup
              have k1 := k0.cell (i := 0) rfl
              have k2 := k0.cell (i := 1) rfl
              clear hi
              refine wpOp_step rfl (fun K hK => ?_)
              go_simp
              refine hK _ _ ?_
              clear hK K
              exact ⟨b0, b1, true, b3, b4, b5, b6, b7, b8, b9, b10, x5_0, x5_1, .agg #[.bool se, .slice Ae ne ce], x5_3, x5_4, x5_5, x5_6, x5_7, x5_8, x5_10, rfl, rfl, hup, HF0.out, HF1.out, (fun _ => hie.up hup), HF3.out, HF4.out, HF5.out, HF6.out, HF7.out, HF8.out, HF9.out, HF10.out⟩
            · skip
              have hb : b2 = true := getB (l := [b0, b1, b2, b3, b4, b5, b6, b7, b8, b9, b10]) (ready_dep hi rfl 2 (by kernel_rfl)) rfl
              have hx := hide (HF2.out hb)
              clear hb
              clear hi
              refine wpOp_step rfl (fun K hK => ?_)
              go_simp
              refine (ownI 0 _ _ _ hx.out (by assumption)).mono ?_
              rintro e w1 ⟨v1, rfl, hv1, hup1⟩
              go_wp2_with fail
              exact ⟨b0, b1, b2, true, b4, b5, b6, b7, b8, b9, b10, x5_0, x5_1, x5_2, v1, x5_4, x5_5, x5_6, x5_7, x5_8, x5_10, rfl, rfl, hup.trans hup1, (fun h => (HF0.out h).up hup1), (fun h => (HF1.out h).up hup1), (fun h => (HF2.out h).up hup1), (fun _ => hv1.mono (Nat.zero_le _)), (fun h => by obtain ⟨q0, rq, r0⟩ := HF4.out h; exact ⟨q0, rq, r0.up hup1⟩), (fun h => by obtain ⟨q0, rq, r0⟩ := HF5.out h; exact ⟨q0, rq, r0.up hup1⟩), (fun h => (HF6.out h).up hup1), HF7.out, (fun h => (HF8.out h).up hup1), HF9.out, HF10.out⟩
            · skip
              have hb0q : b1 = true := getB (l := [b0, b1, b2, b3, b4, b5, b6, b7, b8, b9, b10]) (ready_dep hi rfl 1 (by kernel_rfl)) rfl
              have hx0 := hide (HF1.out hb0q)
              clear hb0q
              have hb1q : b3 = true := getB (l := [b0, b1, b2, b3, b4, b5, b6, b7, b8, b9, b10]) (ready_dep hi rfl 3 (by kernel_rfl)) rfl
              have hx1 := hide (HF3.out hb1q)
              clear hb1q
              clear hi
              refine wpOp_step rfl (fun K hK => ?_)
              go_simp
              refine (sub_any 0 0 _ _ y z _ hx0.out hx1.out htb hte).mono ?_
              rintro e w1 ⟨v0, rfl, hv0, hup1⟩
              go_wp2_with fail
              exact ⟨b0, b1, b2, b3, true, b5, b6, b7, b8, b9, b10, x5_0, x5_1, x5_2, x5_3, .tuple #[v0, .int .i64 (bndE (y - z))], x5_5, x5_6, x5_7, x5_8, x5_10, rfl, rfl, hup.trans hup1, (fun h => (HF0.out h).up hup1), (fun h => (HF1.out h).up hup1), (fun h => (HF2.out h).up hup1), (fun h => (HF3.out h).up hup1), (fun _ => ⟨v0, rfl, hv0.mono (Nat.zero_le _)⟩), (fun h => by obtain ⟨q0, rq, r0⟩ := HF5.out h; exact ⟨q0, rq, r0.up hup1⟩), (fun h => (HF6.out h).up hup1), HF7.out, (fun h => (HF8.out h).up hup1), HF9.out, HF10.out⟩
            · skip
              have hb : b4 = true := getB (l := [b0, b1, b2, b3, b4, b5, b6, b7, b8, b9, b10]) (ready_dep hi rfl 4 (by kernel_rfl)) rfl
              have hx := hide (HF4.out hb)
              clear hb
              clear hi
              refine wpOp_step rfl (fun K hK => ?_)
              go_simp
              refine hK _ _ ?_
              clear hK K
              exact ⟨b0, b1, b2, b3, b4, true, b6, b7, b8, b9, b10, x5_0, x5_1, x5_2, x5_3, x5_4, x5_4, x5_6, x5_7, x5_8, x5_10, rfl, rfl, hup, HF0.out, HF1.out, HF2.out, HF3.out, HF4.out, (fun _ => hx.out), HF6.out, HF7.out, HF8.out, HF9.out, HF10.out⟩
            · skip
              have hb : b5 = true := getB (l := [b0, b1, b2, b3, b4, b5, b6, b7, b8, b9, b10]) (ready_dep hi rfl 5 (by kernel_rfl)) rfl
              have Hb := hide hb
              obtain ⟨v0, hxe, hv0⟩ := HF5.out hb
              clear hb
              subst hxe
              have hn := ready_not hi
              have hst9 : b9 = false := by
                cases e : b9 with
                | false => rfl
                | true => have h5 := (HF9.out e).2; rw [h5] at hn; cases hn
              have Hst9 := hide hst9
              clear hst9
              clear hn
              clear hi
              refine wpOp_step rfl (fun K hK => ?_)
              go_simp
              refine hK _ _ ?_
              clear hK K
              exact ⟨b0, b1, b2, b3, b4, b5, true, b7, b8, b9, b10, x5_0, x5_1, x5_2, x5_3, x5_4, .tuple #[v0, .int .i64 (bndE (y - z))], v0, x5_7, x5_8, x5_10, rfl, rfl, hup, HF0.out, HF1.out, HF2.out, HF3.out, HF4.out, HF5.out, (fun _ => hv0), HF7.out, (fun h => by rw [Hst9.out] at *; obtain ⟨g, s, A, n, c, h1, h2, h3, _⟩ := HF8.out h; exact ⟨g, s, A, n, c, h1, h2, h3.up (Up.refl _), fun h => by cases h⟩), (fun h => ⟨(HF9.out h).1, rfl⟩), HF10.out⟩
            · skip
              have hb : b5 = true := getB (l := [b0, b1, b2, b3, b4, b5, b6, b7, b8, b9, b10]) (ready_dep hi rfl 5 (by kernel_rfl)) rfl
              have Hb := hide hb
              obtain ⟨v0, hxe, hv0⟩ := HF5.out hb
              clear hb
              subst hxe
              clear hi
              refine wpOp_step rfl (fun K hK => ?_)
              go_simp
              refine hK _ _ ?_
              clear hK K
              exact ⟨b0, b1, b2, b3, b4, b5, b6, true, b8, b9, b10, x5_0, x5_1, x5_2, x5_3, x5_4, .tuple #[v0, .int .i64 (bndE (y - z))], x5_6, .int .i64 (bndE (y - z)), x5_8, x5_10, rfl, rfl, hup, HF0.out, HF1.out, HF2.out, HF3.out, HF4.out, HF5.out, HF6.out, (fun _ => rfl), HF8.out, HF9.out, HF10.out⟩
            · skip
              have hn := ready_not hi
              have hst9 : b9 = false := by
                cases e : b9 with
                | false => rfl
                | true => have h5 := (HF9.out e).1; rw [h5] at hn; cases hn
              have Hst9 := hide hst9
              clear hst9
              clear hn
              clear hi
              have hsz := hup.size
              have hupA := (Up.refl W).alloc (.cells #[.bool false, .slice none 0 0] 24)
              refine wpOp_step rfl (fun K hK => ?_)
              go_simp
              refine hK _ _ ?_
              clear hK K
              exact ⟨b0, b1, b2, b3, b4, b5, b6, b7, true, b9, b10, x5_0, x5_1, x5_2, x5_3, x5_4, x5_5, x5_6, x5_7, .pointer (some ⟨W.heap.size, 0, none⟩), x5_10, rfl, rfl, hup.trans hupA, (fun h => (HF0.out h).up hupA), (fun h => (HF1.out h).up hupA), (fun h => (HF2.out h).up hupA), (fun h => (HF3.out h).up hupA), (fun h => by obtain ⟨q0, rq, r0⟩ := HF4.out h; exact ⟨q0, rq, r0.up hupA⟩), (fun h => by obtain ⟨q0, rq, r0⟩ := HF5.out h; exact ⟨q0, rq, r0.up hupA⟩), (fun h => (HF6.out h).up hupA), HF7.out, (fun _ => by rw [Hst9.out]; exact Box.new _ W _ hsz), (fun h => ⟨rfl, (HF9.out h).2⟩), HF10.out⟩
            · skip
              have hb2 : b8 = true := getB (l := [b0, b1, b2, b3, b4, b5, b6, b7, b8, b9, b10]) (ready_dep hi rfl 8 (by kernel_rfl)) rfl
              have hb1 : b6 = true := getB (l := [b0, b1, b2, b3, b4, b5, b6, b7, b8, b9, b10]) (ready_dep hi rfl 6 (by kernel_rfl)) rfl
              clear hi
              obtain ⟨s9, A9, n9, c9, hxc⟩ := (HF6.out hb1).agg
              subst hxc
              obtain ⟨g, s8, A8, n8, c8, hxb, hgB, hbk, _⟩ := HF8.out hb2
              subst hxb
              have f1 := hbk.cell (i := 0) rfl
              have f2 := hbk.cell (i := 1) rfl
              have f3 := hbk.frozen 0
              have f4 := hbk.frozen 1
              have Hb1 := hide hb1
              have Hb2 := hide hb2
              have hsz := hup.size
              clear hb1 hb2
              refine wpOp_step rfl (fun K hK => ?_)
              go_simp
              refine hK _ _ ?_
              clear hK K
              exact ⟨b0, b1, b2, b3, b4, b5, b6, b7, b8, true, b10, x5_0, x5_1, x5_2, x5_3, x5_4, x5_5, .agg #[.bool s9, .slice A9 n9 c9], x5_7, .pointer (some ⟨g, 0, none⟩), x5_10, rfl, rfl, hup.two (g := g) hgB _ _, (fun h => (HF0.out h).boxed hbk _ _), (fun h => (HF1.out h).boxed hbk _ _), (fun h => (HF2.out h).boxed hbk _ _), (fun h => (HF3.out h).boxed hbk _ _), (fun h => by obtain ⟨q0, rq, r0⟩ := HF4.out h; exact ⟨q0, rq, r0.boxed hbk _ _⟩), (fun h => by obtain ⟨q0, rq, r0⟩ := HF5.out h; exact ⟨q0, rq, r0.boxed hbk _ _⟩), (fun h => (HF6.out h).boxed hbk _ _), HF7.out, (fun _ => hbk.fill hgB), (fun _ => ⟨Hb2.out, Hb1.out⟩), HF10.out⟩
            · skip
              have hb : b7 = true := getB (l := [b0, b1, b2, b3, b4, b5, b6, b7, b8, b9, b10]) (ready_dep hi rfl 7 (by kernel_rfl)) rfl
              have hx := hide (HF7.out hb)
              clear hb
              clear hi
              refine wpOp_step rfl (fun K hK => ?_)
              go_simp
              refine hK _ _ ?_
              clear hK K
              exact ⟨b0, b1, b2, b3, b4, b5, b6, b7, b8, b9, true, x5_0, x5_1, x5_2, x5_3, x5_4, x5_5, x5_6, x5_7, x5_8, x5_7, rfl, rfl, hup, HF0.out, HF1.out, HF2.out, HF3.out, HF4.out, HF5.out, HF6.out, HF7.out, HF8.out, HF9.out, (fun _ => hx.out)⟩
          case hQ =>
            rintro l a W5_ ⟨b0, b1, b2, b3, b4, b5, b6, b7, b8, b9, b10, x5_0, x5_1, x5_2, x5_3, x5_4, x5_5, x5_6, x5_7, x5_8, x5_10, rfl, rfl, hup, hF0, hF1, hF2, hF3, hF4, hF5, hF6, hF7, hF8, hF9, hF10⟩ hall
            have hb0 : b0 = true := getB (l := [b0, b1, b2, b3, b4, b5, b6, b7, b8, b9, b10]) (hall 0 (by decide)) rfl
            have hb1 : b1 = true := getB (l := [b0, b1, b2, b3, b4, b5, b6, b7, b8, b9, b10]) (hall 1 (by decide)) rfl
            have hb2 : b2 = true := getB (l := [b0, b1, b2, b3, b4, b5, b6, b7, b8, b9, b10]) (hall 2 (by decide)) rfl
            have hb3 : b3 = true := getB (l := [b0, b1, b2, b3, b4, b5, b6, b7, b8, b9, b10]) (hall 3 (by decide)) rfl
            have hb4 : b4 = true := getB (l := [b0, b1, b2, b3, b4, b5, b6, b7, b8, b9, b10]) (hall 4 (by decide)) rfl
            have hb5 : b5 = true := getB (l := [b0, b1, b2, b3, b4, b5, b6, b7, b8, b9, b10]) (hall 5 (by decide)) rfl
            have hb6 : b6 = true := getB (l := [b0, b1, b2, b3, b4, b5, b6, b7, b8, b9, b10]) (hall 6 (by decide)) rfl
            have hb7 : b7 = true := getB (l := [b0, b1, b2, b3, b4, b5, b6, b7, b8, b9, b10]) (hall 7 (by decide)) rfl
            have hb8 : b8 = true := getB (l := [b0, b1, b2, b3, b4, b5, b6, b7, b8, b9, b10]) (hall 8 (by decide)) rfl
            have hb9 : b9 = true := getB (l := [b0, b1, b2, b3, b4, b5, b6, b7, b8, b9, b10]) (hall 9 (by decide)) rfl
            have hb10 : b10 = true := getB (l := [b0, b1, b2, b3, b4, b5, b6, b7, b8, b9, b10]) (hall 10 (by decide)) rfl
            subst hb0 hb1 hb2 hb3 hb4 hb5 hb6 hb7 hb8 hb9 hb10
            clear hall
            have m0 := hF0 rfl
            have m1 := hF1 rfl
            have m2 := hF2 rfl
            have m3 := hF3 rfl
            have m4 := hF4 rfl
            have m5 := hF5 rfl
            have m6 := hF6 rfl
            have m7 := hF7 rfl
            have m8 := hF8 rfl
            have m10 := hF10 rfl
            clear hF0 hF1 hF2 hF3 hF4 hF5 hF6 hF7 hF8 hF9 hF10
            obtain ⟨gr, sr, Ar, nr, cr, rfl, hgr, hkr, her⟩ := m8
            obtain rfl := her rfl
            clear her hgr
            have hir := m6
            obtain rfl := m7
            obtain rfl := m10
            clear m0 m1 m2 m3 m4 m5 m6
            have hka := hka.up hup
            have hkb := hkb.up hup
            have hke := hke.up hup
            have hko := hko.up hup
            have hia := hia.up hup
            have hib := hib.up hup
            have hie := hie.up hup
            have hio := hio.up hup
            have hupw := hupw.trans hup
            clear hup
            have hkaa := hka.cell (i := 0) rfl
            have hkab := hka.cell (i := 1) rfl
            have hkal := hka.lt
            have hkba := hkb.cell (i := 0) rfl
            have hkbb := hkb.cell (i := 1) rfl
            have hkbl := hkb.lt
            have hkea := hke.cell (i := 0) rfl
            have hkeb := hke.cell (i := 1) rfl
            have hkel := hke.lt
            have hkoa := hko.cell (i := 0) rfl
            have hkob := hko.cell (i := 1) rfl
            have hkol := hko.lt
            have hkra := hkr.cell (i := 0) rfl
            have hkrb := hkr.cell (i := 1) rfl
            have hkrl := hkr.lt
            go_wp2_with fail
            clear hkaa hkab hkal hkba hkbb hkbl hkea hkeb hkel hkoa hkob hkol hkra hkrb hkrl
            go_ret
            exact ⟨rfl, hupw⟩

set_option maxRecDepth 100000 in
theorem lifted_integerOrder (os : Os) (started : os.Started) (H : Type) (enc : TypeId × Value → H) :
    ReturnsInHanded {} Try.checked os 9 .any (Rows.integerOrderSpec.pre6 enc Try.prog Try.f9 Rows.integerOrderRow.domain false) (Rows.integerOrderSpec.post enc Try.prog Try.f9 false true false false) := by
  refine returnsInHanded_of_change (C := Try.checked) ownK started (by kernel_rfl) Try.func9
    (ChangeSpec.witness6 (enc := enc) (C := Try.checked) false ⟨#[], #[.agg #[.bool false, .slice none 0 0], .agg #[.bool false, .slice none 0 0], .agg #[.bool false, .slice none 0 0]], []⟩ 8 (by kernel_rfl) (by kernel_rfl) (by kernel_rfl) (by kernel_rfl)) ?_
  intro W base args ds gs before hval0 hW hcnd _
  have hval : ∀ (j : Nat) t v, Try.f9.params[j]? = some t → args[j]? = some v → Value.okWide Try.prog W .any base t v := hval0
  have hW' := hW
  obtain ⟨p, q, hA0, hV, rfl, hfz, hnd⟩ := hW
  have hA : DataW.TrodAll enc Try.prog W 0 (fun _ => true) true Try.f9.params.toList args.toList ds p := hA0
  rw [Try.params9] at hA hval
  obtain ⟨v0, vs0, d0, ds0, p0, q0, hargs, rfl, rfl, h0, r0⟩ := trodAll_cons hA
  obtain ⟨v1, vs1, d1, ds1, p1, q1, rfl, rfl, rfl, h1, r1⟩ := trodAll_cons r0
  obtain ⟨v2, vs2, d2, ds2, p2, q2, rfl, rfl, rfl, h2, r2⟩ := trodAll_cons r1
  obtain ⟨rfl, rfl, rfl⟩ := trodAll_nil r2
  obtain rfl : args = #[v0, v1, v2] := by cases args; simp_all
  obtain ⟨rfl, rfl⟩ := trodVars_none hV
  have k0 := h0
  have lt0 : ∀ x ∈ p0, x.block < W.heap.size := by obtain ⟨m, hm⟩ := k0; exact DataW.trod_lt m _ _ _ hm
  have w0 : RawIn W v0 := raw_open Try.underlying37 (by kernel_rfl) (by kernel_rfl) (by kernel_rfl) (by kernel_rfl) (hval 0 37 v0 rfl rfl) h0
  have k1 := h1
  have lt1 : ∀ x ∈ p1, x.block < W.heap.size := by obtain ⟨m, hm⟩ := k1; exact DataW.trod_lt m _ _ _ hm
  have w1 : RawIn W v1 := raw_open Try.underlying37 (by kernel_rfl) (by kernel_rfl) (by kernel_rfl) (by kernel_rfl) (hval 1 37 v1 rfl rfl) h1
  have k2 := h2
  have lt2 : ∀ x ∈ p2, x.block < W.heap.size := by obtain ⟨m, hm⟩ := k2; exact DataW.trod_lt m _ _ _ hm
  have w2 : RawIn W v2 := raw_open Try.underlying37 (by kernel_rfl) (by kernel_rfl) (by kernel_rfl) (by kernel_rfl) (hval 2 37 v2 rfl rfl) h2
  clear hA0 hval0
  refine (orderW v0 v1 v2 W w0 w1 w2).mono fun e W' ⟨he, bel0⟩ => ?_
  have bel : Below W.heap.size W W' := bel0
  subst he
  exact ⟨_, rfl, _, _, _, [], _, [], hW', trodAll_mk1 (shut_bool Try.underlying4 _), (trodAll_cons_mk (Below.trod laidOut (by kernel_rfl) (of_decide_eq_true (by kernel_rfl)) k0 bel lt0) (trodAll_cons_mk (Below.trod laidOut (by kernel_rfl) (of_decide_eq_true (by kernel_rfl)) k1 bel lt1) (trodAll_cons_mk (Below.trod laidOut (by kernel_rfl) (of_decide_eq_true (by kernel_rfl)) k2 bel lt2) trodAll_mk0))), rfl, bel.frame _, fun h => by cases h⟩

theorem over_integerOrder : Rows.integerOrderRow.holds Try.pinned (OpenSpec.ofChange Rows.integerOrderSpec) :=
  OpenClaim.holds_of_wide 9 Try.f9 rfl rfl rfl rfl rfl rfl rfl ⟨rfl, rfl, rfl, rfl, rfl⟩ rfl rfl rfl rfl rfl (by kernel_rfl) Try.func9 (by kernel_rfl)
    (of_decide_eq_true (by kernel_rfl)) (by unfold Func.isWrapper; first | (rw [if_pos (by decide +kernel)]; kernel_rfl) | (rw [if_neg (by decide +kernel)]; exact ⟨rfl, rfl⟩))
    (fun os started H enc _ => lifted_integerOrder os started H enc)

theorem integerOrder_holds : Rows.IntegerOrderSaid := over_integerOrder
end Go.Proofs.Ytbfbemgfdcehfaa
