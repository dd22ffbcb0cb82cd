/- For every two drafts, Add and Sub return the reference's sum and difference or their errors, and what they return is valid. No condition. -/
import Derived.Test.YtbfbemgfdcehfaaInv2
import Derived.Test.YtbfbemgfdcehfaaH1
namespace Go.Proofs.Ytbfbemgfdcehfaa
open Go.RowKit

open Go.ChangeShapes Go.WideShapes Go.ChangeAt

set_option maxRecDepth 100000 in
set_option maxHeartbeats 8000000 in
theorem sumW (v0 v1 : Value) (w : World) (h0 : RawIn w v0) (h1 : RawIn w v1) : Calls Try.prog 5 #[v0, v1] w fun e w' => e = .returned (.bool true) ∧ Up w w' := by
  have g0 := h0
  have g1 := h1
  obtain ⟨s, A, n, c, l, rfl, hl, hw, Hn, hn, hc⟩ := h0
  obtain ⟨t, C, m, d, k, rfl, hm, hw', Hm, hmm, hd⟩ := h1
  clear hl hw Hn hn hc hm hw' Hm hmm hd
  obtain ⟨w0, hw0⟩ : ∃ w0, w0 = ((w.alloc (.cells #[.bool s, .slice A n c] 37)).alloc (.cells #[.bool t, .slice C m d] 37)) := ⟨_, rfl⟩
  have hb1 : Bk w0 (w.heap.size) 37 #[.bool s, .slice A n c] := by
    have := (Bk.new w 37 #[.bool s, .slice A n c]).alloc (.cells #[.bool t, .slice C m d] 37)
    rw [hw0]; simpa using this
  have hb2 : Bk w0 (w.heap.size + 1) 37 #[.bool t, .slice C m d] := by
    have := Bk.new (w.alloc (.cells #[.bool s, .slice A n c] 37)) 37 #[.bool t, .slice C m d]
    rw [hw0]; simpa using this
  have hup0 : Up w w0 := by rw [hw0]; exact ((Up.refl w).alloc _).alloc _
  have hsz0 : w.heap.size + 2 ≤ w0.heap.size := by rw [hw0]; simp
  have Hw0 := hide hw0
  clear hw0
  have e1a := hb1.cell (i := 0) rfl
  have e1b := hb1.cell (i := 1) rfl
  have e2a := hb2.cell (i := 0) rfl
  have e2b := hb2.cell (i := 1) rfl
  have q0 := g0.up hup0
  have q1 := g1.up hup0
  go_enter Try.func5, Try.ntmps5
  go_wp2_with fail
  rw [← Hw0.out]
  refine region_inv (fun l a W => ∃ (b0 b1 b2 b3 b4 b5 b6 b7 : Bool) (x0 x1 x2 x3 x4 x5 : Value), l = #[b0, b1, b2, b3, b4, b5, b6, b7] ∧ a = { tmps := #[.agg #[.bool s, .slice A n c], .agg #[.bool t, .slice C m d], .pointer (some ⟨w.heap.size, 0, none⟩), .pointer (some ⟨w.heap.size + 1, 0, none⟩), .bool false, x4, x5, undef, undef, undef, undef, undef, undef, undef, undef, x0, x1, x2, x3, undef, undef, undef, undef, undef, undef, undef, undef, undef, undef, undef, undef, undef, undef, undef, undef, undef, undef, undef, undef, undef, undef, undef, undef, undef, undef, undef, undef, undef, undef, undef, undef, undef, undef, undef, undef, undef, undef, undef, undef, undef, undef, undef, undef, undef, undef, undef, undef, undef, undef, undef, undef, undef, undef, undef, undef], defers := [] } ∧ Up w0 W ∧ (b0 = true → x0 = .agg #[.bool s, .slice A n c]) ∧ (b1 = true → Got W x1) ∧ (b2 = true → x2 = .agg #[.bool t, .slice C m d]) ∧ (b3 = true → Got W x3) ∧ (b4 = true → Box (w0.heap.size) W x4 b6 x1) ∧ (b5 = true → Box (w0.heap.size) W x5 b7 x3) ∧ (b6 = true → b4 = true ∧ b1 = true) ∧ (b7 = true → b5 = true ∧ b3 = true) ∧ (b4 = true → b5 = true → x4 ≠ x5)) (by kernel_rfl) (by kernel_rfl) ?hs ?h0 ?hstep ?hQ
  case hs => rintro l a W ⟨b0, b1, b2, b3, b4, b5, b6, b7, x0, x1, x2, x3, x4, x5, rfl, rfl, hup, hF0, hF1, hF2, hF3, hF4, hF5, hF6, hF7, hN4x5⟩; rfl
  case h0 => exact ⟨false, false, false, false, false, false, false, false, undef, undef, undef, undef, undef, undef, rfl, rfl, (Up.refl w0).drew, (fun h => by cases h), (fun h => by cases h), (fun h => by cases h), (fun h => by cases h), (fun h => by cases h), (fun h => by cases h), (fun h => by cases h), (fun h => by cases h), (fun h => by cases h)⟩
  case hstep =>
    rintro l a W ⟨b0, b1, b2, b3, b4, b5, b6, b7, x0, x1, x2, x3, x4, x5, rfl, rfl, hup, hF0, hF1, hF2, hF3, hF4, hF5, hF6, hF7, hN4x5⟩ i hi
    have hlt : i < 8 := ready_lt hi
    have HF0 := hide hF0
    have HF1 := hide hF1
    have HF2 := hide hF2
    have HF3 := hide hF3
    have HF4 := hide hF4
    have HF5 := hide hF5
    have HF6 := hide hF6
    have HF7 := hide hF7
    have HN4x5 := hide hN4x5
    clear hF0 hF1 hF2 hF3 hF4 hF5 hF6 hF7 hN4x5
    have hcase : i = 0 ∨ i = 1 ∨ i = 2 ∨ i = 3 ∨ i = 4 ∨ i = 5 ∨ i = 6 ∨ i = 7 := by omega
    clear hlt
    rcases hcase with rfl | rfl | rfl | rfl | rfl | rfl | rfl | rfl
    · skip
      have k1 : W.cell? ⟨w.heap.size, 0, none⟩ = some (.bool s) := hup.keep e1a
      have k2 : W.cell? ⟨w.heap.size, 1, none⟩ = some (.slice A n c) := hup.keep e1b
      clear hi
      refine wpOp_step rfl (fun K hK => ?_)
      go_simp
      refine hK _ _ ?_
      clear hK K
      exact ⟨true, b1, b2, b3, b4, b5, b6, b7, .agg #[.bool s, .slice A n c], x1, x2, x3, x4, x5, rfl, rfl, hup, (fun _ => rfl), HF1.out, HF2.out, HF3.out, HF4.out, HF5.out, HF6.out, HF7.out, HN4x5.out⟩
    · skip
      have hb : b0 = true := getB (l := [b0, b1, b2, b3, b4, b5, b6, b7]) (ready_dep hi rfl 0 (by kernel_rfl)) rfl
      have hx := HF0.out hb
      subst hx
      have hn := ready_not hi
      have hst6 : b6 = false := by
        cases e : b6 with
        | false => rfl
        | true => have h5 := (HF6.out e).2; rw [h5] at hn; cases hn
      have Hst6 := hide hst6
      clear hst6
      clear hn
      clear hi
      refine wpOp_step rfl (fun K hK => ?_)
      go_simp
      refine (madeR _ _ (q0.up hup)).mono ?_
      rintro e w1 ⟨v1, z1, rfl, hv1, hz1, hup1⟩
      go_wp2_with fail
      exact ⟨b0, true, b2, b3, b4, b5, b6, b7, .agg #[.bool s, .slice A n c], v1, x2, x3, x4, x5, rfl, rfl, hup.trans hup1, (fun _ => rfl), (fun _ => ⟨z1, hv1.mono (Nat.zero_le _), hz1⟩), HF2.out, (fun h => (HF3.out h).up hup1), (fun h => by rw [Hst6.out] at *; obtain ⟨g, s, A, n, c, h1, h2, h3, _⟩ := HF4.out h; exact ⟨g, s, A, n, c, h1, h2, h3.up hup1, fun h => by cases h⟩), (fun h => (HF5.out h).up hup1), (fun h => ⟨(HF6.out h).1, rfl⟩), HF7.out, HN4x5.out⟩
    · skip
      have k1 : W.cell? ⟨w.heap.size + 1, 0, none⟩ = some (.bool t) := hup.keep e2a
      have k2 : W.cell? ⟨w.heap.size + 1, 1, none⟩ = some (.slice C m d) := hup.keep e2b
      clear hi
      refine wpOp_step rfl (fun K hK => ?_)
      go_simp
      refine hK _ _ ?_
      clear hK K
      exact ⟨b0, b1, true, b3, b4, b5, b6, b7, x0, x1, .agg #[.bool t, .slice C m d], x3, x4, x5, rfl, rfl, hup, HF0.out, HF1.out, (fun _ => rfl), HF3.out, HF4.out, HF5.out, HF6.out, HF7.out, HN4x5.out⟩
    · skip
      have hb : b2 = true := getB (l := [b0, b1, b2, b3, b4, b5, b6, b7]) (ready_dep hi rfl 2 (by kernel_rfl)) rfl
      have hx := HF2.out hb
      subst hx
      have hn := ready_not hi
      have hst7 : b7 = false := by
        cases e : b7 with
        | false => rfl
        | true => have h5 := (HF7.out e).2; rw [h5] at hn; cases hn
      have Hst7 := hide hst7
      clear hst7
      clear hn
      clear hi
      refine wpOp_step rfl (fun K hK => ?_)
      go_simp
      refine (madeR _ _ (q1.up hup)).mono ?_
      rintro e w1 ⟨v1, z1, rfl, hv1, hz1, hup1⟩
      go_wp2_with fail
      exact ⟨b0, b1, b2, true, b4, b5, b6, b7, x0, x1, .agg #[.bool t, .slice C m d], v1, x4, x5, rfl, rfl, hup.trans hup1, HF0.out, (fun h => (HF1.out h).up hup1), (fun _ => rfl), (fun _ => ⟨z1, hv1.mono (Nat.zero_le _), hz1⟩), (fun h => (HF4.out h).up hup1), (fun h => by rw [Hst7.out] at *; obtain ⟨g, s, A, n, c, h1, h2, h3, _⟩ := HF5.out h; exact ⟨g, s, A, n, c, h1, h2, h3.up hup1, fun h => by cases h⟩), HF6.out, (fun h => ⟨(HF7.out h).1, rfl⟩), HN4x5.out⟩
    · skip
      have hn := ready_not hi
      have hst6 : b6 = false := by
        cases e : b6 with
        | false => rfl
        | true => have h5 := (HF6.out e).1; rw [h5] at hn; cases hn
      have Hst6 := hide hst6
      clear hst6
      clear hn
      clear hi
      have hsz := hup.size
      have hupA := (Up.refl W).alloc (.cells #[.bool false, .slice none 0 0] 24)
      refine wpOp_step rfl (fun K hK => ?_)
      go_simp
      refine hK _ _ ?_
      clear hK K
      exact ⟨b0, b1, b2, b3, true, b5, b6, b7, x0, x1, x2, x3, .pointer (some ⟨W.heap.size, 0, none⟩), x5, rfl, rfl, hup.trans hupA, HF0.out, (fun h => (HF1.out h).up hupA), HF2.out, (fun h => (HF3.out h).up hupA), (fun _ => by rw [Hst6.out]; exact Box.new _ W _ hsz), (fun h => (HF5.out h).up hupA), (fun h => ⟨rfl, (HF6.out h).2⟩), HF7.out, (fun _ h => (HF5.out h).ne_new.symm)⟩
    · skip
      have hn := ready_not hi
      have hst7 : b7 = false := by
        cases e : b7 with
        | false => rfl
        | true => have h5 := (HF7.out e).1; rw [h5] at hn; cases hn
      have Hst7 := hide hst7
      clear hst7
      clear hn
      clear hi
      have hsz := hup.size
      have hupA := (Up.refl W).alloc (.cells #[.bool false, .slice none 0 0] 24)
      refine wpOp_step rfl (fun K hK => ?_)
      go_simp
      refine hK _ _ ?_
      clear hK K
      exact ⟨b0, b1, b2, b3, b4, true, b6, b7, x0, x1, x2, x3, x4, .pointer (some ⟨W.heap.size, 0, none⟩), rfl, rfl, hup.trans hupA, HF0.out, (fun h => (HF1.out h).up hupA), HF2.out, (fun h => (HF3.out h).up hupA), (fun h => (HF4.out h).up hupA), (fun _ => by rw [Hst7.out]; exact Box.new _ W _ hsz), HF6.out, (fun h => ⟨rfl, (HF7.out h).2⟩), (fun h _ => (HF4.out h).ne_new)⟩
    · skip
      have hb2 : b4 = true := getB (l := [b0, b1, b2, b3, b4, b5, b6, b7]) (ready_dep hi rfl 4 (by kernel_rfl)) rfl
      have hb1 : b1 = true := getB (l := [b0, b1, b2, b3, b4, b5, b6, b7]) (ready_dep hi rfl 1 (by kernel_rfl)) rfl
      clear hi
      obtain ⟨s9, A9, n9, c9, hxc⟩ := (HF1.out hb1).agg
      subst hxc
      obtain ⟨g, s8, A8, n8, c8, hxb, hgB, hbk, _⟩ := HF4.out hb2
      subst hxb
      have f1 := hbk.cell (i := 0) rfl
      have f2 := hbk.cell (i := 1) rfl
      have f3 := hbk.frozen 0
      have f4 := hbk.frozen 1
      have Hb1 := hide hb1
      have Hb2 := hide hb2
      have hsz := hup.size
      clear hb1 hb2
      refine wpOp_step rfl (fun K hK => ?_)
      go_simp
      refine hK _ _ ?_
      clear hK K
      exact ⟨b0, b1, b2, b3, b4, b5, true, b7, x0, .agg #[.bool s9, .slice A9 n9 c9], x2, x3, .pointer (some ⟨g, 0, none⟩), x5, rfl, rfl, hup.two (g := g) hgB _ _, HF0.out, (fun h => (HF1.out h).boxed hbk _ _), HF2.out, (fun h => (HF3.out h).boxed hbk _ _), (fun _ => hbk.fill hgB), (fun h => (HF5.out h).far ((HN4x5.out Hb2.out h).symm) _ _), (fun _ => ⟨Hb2.out, Hb1.out⟩), HF7.out, HN4x5.out⟩
    · skip
      have hb2 : b5 = true := getB (l := [b0, b1, b2, b3, b4, b5, b6, b7]) (ready_dep hi rfl 5 (by kernel_rfl)) rfl
      have hb1 : b3 = true := getB (l := [b0, b1, b2, b3, b4, b5, b6, b7]) (ready_dep hi rfl 3 (by kernel_rfl)) rfl
      clear hi
      obtain ⟨s9, A9, n9, c9, hxc⟩ := (HF3.out hb1).agg
      subst hxc
      obtain ⟨g, s8, A8, n8, c8, hxb, hgB, hbk, _⟩ := HF5.out hb2
      subst hxb
      have f1 := hbk.cell (i := 0) rfl
      have f2 := hbk.cell (i := 1) rfl
      have f3 := hbk.frozen 0
      have f4 := hbk.frozen 1
      have Hb1 := hide hb1
      have Hb2 := hide hb2
      have hsz := hup.size
      clear hb1 hb2
      refine wpOp_step rfl (fun K hK => ?_)
      go_simp
      refine hK _ _ ?_
      clear hK K
      exact ⟨b0, b1, b2, b3, b4, b5, b6, true, x0, x1, x2, .agg #[.bool s9, .slice A9 n9 c9], x4, .pointer (some ⟨g, 0, none⟩), rfl, rfl, hup.two (g := g) hgB _ _, HF0.out, (fun h => (HF1.out h).boxed hbk _ _), HF2.out, (fun h => (HF3.out h).boxed hbk _ _), (fun h => (HF4.out h).far (HN4x5.out h Hb2.out) _ _), (fun _ => hbk.fill hgB), HF6.out, (fun _ => ⟨Hb2.out, Hb1.out⟩), HN4x5.out⟩
  case hQ =>
    rintro l a W ⟨b0, b1, b2, b3, b4, b5, b6, b7, x0, x1, x2, x3, x4, x5, rfl, rfl, hup, hF0, hF1, hF2, hF3, hF4, hF5, hF6, hF7, hN4x5⟩ hall
    have hb0 : b0 = true := getB (l := [b0, b1, b2, b3, b4, b5, b6, b7]) (hall 0 (by decide)) rfl
    have hb1 : b1 = true := getB (l := [b0, b1, b2, b3, b4, b5, b6, b7]) (hall 1 (by decide)) rfl
    have hb2 : b2 = true := getB (l := [b0, b1, b2, b3, b4, b5, b6, b7]) (hall 2 (by decide)) rfl
    have hb3 : b3 = true := getB (l := [b0, b1, b2, b3, b4, b5, b6, b7]) (hall 3 (by decide)) rfl
    have hb4 : b4 = true := getB (l := [b0, b1, b2, b3, b4, b5, b6, b7]) (hall 4 (by decide)) rfl
    have hb5 : b5 = true := getB (l := [b0, b1, b2, b3, b4, b5, b6, b7]) (hall 5 (by decide)) rfl
    have hb6 : b6 = true := getB (l := [b0, b1, b2, b3, b4, b5, b6, b7]) (hall 6 (by decide)) rfl
    have hb7 : b7 = true := getB (l := [b0, b1, b2, b3, b4, b5, b6, b7]) (hall 7 (by decide)) rfl
    subst hb0 hb1 hb2 hb3 hb4 hb5 hb6 hb7
    clear hall
    have m0 := hF0 rfl
    have m1 := hF1 rfl
    have m2 := hF2 rfl
    have m3 := hF3 rfl
    have m4 := hF4 rfl
    have m5 := hF5 rfl
    clear hF0 hF1 hF2 hF3 hF4 hF5 hF6 hF7 hN4x5
    obtain ⟨x, hx, hxt⟩ := m1
    obtain ⟨y, hy, hyt⟩ := m3
    obtain ⟨g5, s5, A5, n5, c5, rfl, hg5, hk5, he5⟩ := m4
    obtain ⟨g6, s6, A6, n6, c6, rfl, hg6, hk6, he6⟩ := m5
    obtain rfl := he5 rfl
    obtain rfl := he6 rfl
    obtain rfl := m0
    obtain rfl := m2
    have hupW := hup0.trans hup
    clear he5 he6 q0 q1 g0 g1 hb1 hb2 e1a e1b e2a e2b hup Hw0 hup0
    go_wp2_with fail
    refine (awake_any _).mono ?_
    rintro e wa ⟨rfl, hupa⟩
    have hx := hx.up hupa
    have hy := hy.up hupa
    have hk5 := hk5.up hupa
    have hk6 := hk6.up hupa
    have hupw := hupW.trans hupa
    clear hupW hupa
    go_wp2_with fail
    refine region_inv (fun l a W => ∃ (b0 b1 b2 b3 b4 b5 b6 b7 b8 b9 b10 : Bool) (p0 p1 p2 p3 p4 p5 p6 p7 p8 p10 : Value), l = #[b0, b1, b2, b3, b4, b5, b6, b7, b8, b9, b10] ∧ a = { tmps := #[.agg #[.bool s, .slice A n c], .agg #[.bool t, .slice C m d], .pointer (some ⟨w.heap.size, 0, none⟩), .pointer (some ⟨w.heap.size + 1, 0, none⟩), .bool false, .pointer (some ⟨g5, 0, none⟩), .pointer (some ⟨g6, 0, none⟩), p8, p10, undef, undef, undef, undef, undef, undef, .agg #[.bool s, .slice A n c], .agg #[.bool s5, .slice A5 n5 c5], .agg #[.bool t, .slice C m d], .agg #[.bool s6, .slice A6 n6 c6], .bool true, .bool false, p5, p0, p1, p2, p3, p4, p6, p7, undef, undef, undef, undef, undef, undef, undef, undef, undef, undef, undef, undef, undef, undef, undef, undef, undef, undef, undef, undef, undef, undef, undef, undef, undef, undef, undef, undef, undef, undef, undef, undef, undef, undef, undef, undef, undef, undef, undef, undef, undef, undef, undef, undef, undef, undef], defers := [] } ∧ Up wa W ∧ (b0 = true → IsInt 0 W p0 (x)) ∧ (b1 = true → IsInt 0 W p1 (x)) ∧ (b2 = true → IsInt 0 W p2 (y)) ∧ (b3 = true → IsInt 0 W p3 (y)) ∧ (b4 = true → ∃ v0 : Value, p4 = .tuple #[v0, .int .i64 (bndE (x + y))] ∧ IsInt 0 W v0 (bnd (x + y))) ∧ (b5 = true → ∃ v0 : Value, p5 = .tuple #[v0, .int .i64 (bndE (x + y))] ∧ IsInt 0 W v0 (bnd (x + y))) ∧ (b6 = true → IsInt 0 W p6 (bnd (x + y))) ∧ (b7 = true → p7 = .int .i64 (bndE (x + y))) ∧ (b8 = true → Box (wa.heap.size) W p8 b9 p6) ∧ (b9 = true → b8 = true ∧ b6 = true) ∧ (b10 = true → p10 = .int .i64 (bndE (x + y)))) (by kernel_rfl) (by kernel_rfl) ?hs ?h0 ?hstep ?hQ
    case hs => rintro l a W ⟨b0, b1, b2, b3, b4, b5, b6, b7, b8, b9, b10, p0, p1, p2, p3, p4, p5, p6, p7, p8, p10, rfl, rfl, hup, hF0, hF1, hF2, hF3, hF4, hF5, hF6, hF7, hF8, hF9, hF10⟩; rfl
    case h0 => exact ⟨false, false, false, false, false, false, false, false, false, false, false, undef, undef, undef, undef, undef, undef, undef, undef, undef, undef, rfl, rfl, (Up.refl wa).drew, (fun h => by cases h), (fun h => by cases h), (fun h => by cases h), (fun h => by cases h), (fun h => by cases h), (fun h => by cases h), (fun h => by cases h), (fun h => by cases h), (fun h => by cases h), (fun h => by cases h), (fun h => by cases h)⟩
    case hstep =>
      rintro l a W ⟨b0, b1, b2, b3, b4, b5, b6, b7, b8, b9, b10, p0, p1, p2, p3, p4, p5, p6, p7, p8, p10, rfl, rfl, hup, hF0, hF1, hF2, hF3, hF4, hF5, hF6, hF7, hF8, hF9, hF10⟩ i hi
      have hlt : i < 11 := ready_lt hi
      have HF0 := hide hF0
      have HF1 := hide hF1
      have HF2 := hide hF2
      have HF3 := hide hF3
      have HF4 := hide hF4
      have HF5 := hide hF5
      have HF6 := hide hF6
      have HF7 := hide hF7
      have HF8 := hide hF8
      have HF9 := hide hF9
      have HF10 := hide hF10
      clear hF0 hF1 hF2 hF3 hF4 hF5 hF6 hF7 hF8 hF9 hF10
      have hcase : i = 0 ∨ i = 1 ∨ i = 2 ∨ i = 3 ∨ i = 4 ∨ i = 5 ∨ i = 6 ∨ i = 7 ∨ i = 8 ∨ i = 9 ∨ i = 10 := by omega
      clear hlt
      rcases hcase with rfl | rfl | rfl | rfl | rfl | rfl | rfl | rfl | rfl | rfl | rfl
      · skip
        have k0 := hk5.up hup
        have k1 := k0.cell (i := 0) rfl
        have k2 := k0.cell (i := 1) rfl
        clear hi
        refine wpOp_step rfl (fun K hK => ?_)
        go_simp
        refine hK _ _ ?_
        clear hK K
        exact ⟨true, b1, b2, b3, b4, b5, b6, b7, b8, b9, b10, .agg #[.bool s5, .slice A5 n5 c5], p1, p2, p3, p4, p5, p6, p7, p8, p10, rfl, rfl, hup, (fun _ => hx.up hup), HF1.out, HF2.out, HF3.out, HF4.out, HF5.out, HF6.out, HF7.out, HF8.out, HF9.out, HF10.out⟩
      · skip
        have hb : b0 = true := getB (l := [b0, b1, b2, b3, b4, b5, b6, b7, b8, b9, b10]) (ready_dep hi rfl 0 (by kernel_rfl)) rfl
        have hx := hide (HF0.out hb)
        clear hb
        clear hi
        refine wpOp_step rfl (fun K hK => ?_)
        go_simp
        refine (ownI 0 _ _ _ hx.out (by assumption)).mono ?_
        rintro e w1 ⟨v1, rfl, hv1, hup1⟩
        go_wp2_with fail
        exact ⟨b0, true, b2, b3, b4, b5, b6, b7, b8, b9, b10, p0, v1, p2, p3, p4, p5, p6, p7, p8, p10, rfl, rfl, hup.trans hup1, (fun h => (HF0.out h).up hup1), (fun _ => hv1.mono (Nat.zero_le _)), (fun h => (HF2.out h).up hup1), (fun h => (HF3.out h).up hup1), (fun h => by obtain ⟨q0, rq, r0⟩ := HF4.out h; exact ⟨q0, rq, r0.up hup1⟩), (fun h => by obtain ⟨q0, rq, r0⟩ := HF5.out h; exact ⟨q0, rq, r0.up hup1⟩), (fun h => (HF6.out h).up hup1), HF7.out, (fun h => (HF8.out h).up hup1), HF9.out, HF10.out⟩
      · skip
        have k0 := hk6.up hup
        have k1 := k0.cell (i := 0) rfl
        have k2 := k0.cell (i := 1) rfl
        clear hi
        refine wpOp_step rfl (fun K hK => ?_)
        go_simp
        refine hK _ _ ?_
        clear hK K
        exact ⟨b0, b1, true, b3, b4, b5, b6, b7, b8, b9, b10, p0, p1, .agg #[.bool s6, .slice A6 n6 c6], p3, p4, p5, p6, p7, p8, p10, rfl, rfl, hup, HF0.out, HF1.out, (fun _ => hy.up hup), HF3.out, HF4.out, HF5.out, HF6.out, HF7.out, HF8.out, HF9.out, HF10.out⟩
      · skip
        have hb : b2 = true := getB (l := [b0, b1, b2, b3, b4, b5, b6, b7, b8, b9, b10]) (ready_dep hi rfl 2 (by kernel_rfl)) rfl
        have hx := hide (HF2.out hb)
        clear hb
        clear hi
        refine wpOp_step rfl (fun K hK => ?_)
        go_simp
        refine (ownI 0 _ _ _ hx.out (by assumption)).mono ?_
        rintro e w1 ⟨v1, rfl, hv1, hup1⟩
        go_wp2_with fail
        exact ⟨b0, b1, b2, true, b4, b5, b6, b7, b8, b9, b10, p0, p1, p2, v1, p4, p5, p6, p7, p8, p10, rfl, rfl, hup.trans hup1, (fun h => (HF0.out h).up hup1), (fun h => (HF1.out h).up hup1), (fun h => (HF2.out h).up hup1), (fun _ => hv1.mono (Nat.zero_le _)), (fun h => by obtain ⟨q0, rq, r0⟩ := HF4.out h; exact ⟨q0, rq, r0.up hup1⟩), (fun h => by obtain ⟨q0, rq, r0⟩ := HF5.out h; exact ⟨q0, rq, r0.up hup1⟩), (fun h => (HF6.out h).up hup1), HF7.out, (fun h => (HF8.out h).up hup1), HF9.out, HF10.out⟩
      · skip
        have hb0q : b1 = true := getB (l := [b0, b1, b2, b3, b4, b5, b6, b7, b8, b9, b10]) (ready_dep hi rfl 1 (by kernel_rfl)) rfl
        have hx0 := hide (HF1.out hb0q)
        clear hb0q
        have hb1q : b3 = true := getB (l := [b0, b1, b2, b3, b4, b5, b6, b7, b8, b9, b10]) (ready_dep hi rfl 3 (by kernel_rfl)) rfl
        have hx1 := hide (HF3.out hb1q)
        clear hb1q
        clear hi
        refine wpOp_step rfl (fun K hK => ?_)
        go_simp
        refine (add_any 0 0 _ _ x y _ hx0.out hx1.out hxt hyt).mono ?_
        rintro e w1 ⟨v0, rfl, hv0, hup1⟩
        go_wp2_with fail
        exact ⟨b0, b1, b2, b3, true, b5, b6, b7, b8, b9, b10, p0, p1, p2, p3, .tuple #[v0, .int .i64 (bndE (x + y))], p5, p6, p7, p8, p10, rfl, rfl, hup.trans hup1, (fun h => (HF0.out h).up hup1), (fun h => (HF1.out h).up hup1), (fun h => (HF2.out h).up hup1), (fun h => (HF3.out h).up hup1), (fun _ => ⟨v0, rfl, hv0.mono (Nat.zero_le _)⟩), (fun h => by obtain ⟨q0, rq, r0⟩ := HF5.out h; exact ⟨q0, rq, r0.up hup1⟩), (fun h => (HF6.out h).up hup1), HF7.out, (fun h => (HF8.out h).up hup1), HF9.out, HF10.out⟩
      · skip
        have hb : b4 = true := getB (l := [b0, b1, b2, b3, b4, b5, b6, b7, b8, b9, b10]) (ready_dep hi rfl 4 (by kernel_rfl)) rfl
        have hx := hide (HF4.out hb)
        clear hb
        clear hi
        refine wpOp_step rfl (fun K hK => ?_)
        go_simp
        refine hK _ _ ?_
        clear hK K
        exact ⟨b0, b1, b2, b3, b4, true, b6, b7, b8, b9, b10, p0, p1, p2, p3, p4, p4, p6, p7, p8, p10, rfl, rfl, hup, HF0.out, HF1.out, HF2.out, HF3.out, HF4.out, (fun _ => hx.out), HF6.out, HF7.out, HF8.out, HF9.out, HF10.out⟩
      · skip
        have hb : b5 = true := getB (l := [b0, b1, b2, b3, b4, b5, b6, b7, b8, b9, b10]) (ready_dep hi rfl 5 (by kernel_rfl)) rfl
        have Hb := hide hb
        obtain ⟨v0, hxe, hv0⟩ := HF5.out hb
        clear hb
        subst hxe
        have hn := ready_not hi
        have hst9 : b9 = false := by
          cases e : b9 with
          | false => rfl
          | true => have h5 := (HF9.out e).2; rw [h5] at hn; cases hn
        have Hst9 := hide hst9
        clear hst9
        clear hn
        clear hi
        refine wpOp_step rfl (fun K hK => ?_)
        go_simp
        refine hK _ _ ?_
        clear hK K
        exact ⟨b0, b1, b2, b3, b4, b5, true, b7, b8, b9, b10, p0, p1, p2, p3, p4, .tuple #[v0, .int .i64 (bndE (x + y))], v0, p7, p8, p10, rfl, rfl, hup, HF0.out, HF1.out, HF2.out, HF3.out, HF4.out, HF5.out, (fun _ => hv0), HF7.out, (fun h => by rw [Hst9.out] at *; obtain ⟨g, s, A, n, c, h1, h2, h3, _⟩ := HF8.out h; exact ⟨g, s, A, n, c, h1, h2, h3.up (Up.refl _), fun h => by cases h⟩), (fun h => ⟨(HF9.out h).1, rfl⟩), HF10.out⟩
      · skip
        have hb : b5 = true := getB (l := [b0, b1, b2, b3, b4, b5, b6, b7, b8, b9, b10]) (ready_dep hi rfl 5 (by kernel_rfl)) rfl
        have Hb := hide hb
        obtain ⟨v0, hxe, hv0⟩ := HF5.out hb
        clear hb
        subst hxe
        clear hi
        refine wpOp_step rfl (fun K hK => ?_)
        go_simp
        refine hK _ _ ?_
        clear hK K
        exact ⟨b0, b1, b2, b3, b4, b5, b6, true, b8, b9, b10, p0, p1, p2, p3, p4, .tuple #[v0, .int .i64 (bndE (x + y))], p6, .int .i64 (bndE (x + y)), p8, p10, rfl, rfl, hup, HF0.out, HF1.out, HF2.out, HF3.out, HF4.out, HF5.out, HF6.out, (fun _ => rfl), HF8.out, HF9.out, HF10.out⟩
      · skip
        have hn := ready_not hi
        have hst9 : b9 = false := by
          cases e : b9 with
          | false => rfl
          | true => have h5 := (HF9.out e).1; rw [h5] at hn; cases hn
        have Hst9 := hide hst9
        clear hst9
        clear hn
        clear hi
        have hsz := hup.size
        have hupA := (Up.refl W).alloc (.cells #[.bool false, .slice none 0 0] 24)
        refine wpOp_step rfl (fun K hK => ?_)
        go_simp
        refine hK _ _ ?_
        clear hK K
        exact ⟨b0, b1, b2, b3, b4, b5, b6, b7, true, b9, b10, p0, p1, p2, p3, p4, p5, p6, p7, .pointer (some ⟨W.heap.size, 0, none⟩), p10, rfl, rfl, hup.trans hupA, (fun h => (HF0.out h).up hupA), (fun h => (HF1.out h).up hupA), (fun h => (HF2.out h).up hupA), (fun h => (HF3.out h).up hupA), (fun h => by obtain ⟨q0, rq, r0⟩ := HF4.out h; exact ⟨q0, rq, r0.up hupA⟩), (fun h => by obtain ⟨q0, rq, r0⟩ := HF5.out h; exact ⟨q0, rq, r0.up hupA⟩), (fun h => (HF6.out h).up hupA), HF7.out, (fun _ => by rw [Hst9.out]; exact Box.new _ W _ hsz), (fun h => ⟨rfl, (HF9.out h).2⟩), HF10.out⟩
      · skip
        have hb2 : b8 = true := getB (l := [b0, b1, b2, b3, b4, b5, b6, b7, b8, b9, b10]) (ready_dep hi rfl 8 (by kernel_rfl)) rfl
        have hb1 : b6 = true := getB (l := [b0, b1, b2, b3, b4, b5, b6, b7, b8, b9, b10]) (ready_dep hi rfl 6 (by kernel_rfl)) rfl
        clear hi
        obtain ⟨s9, A9, n9, c9, hxc⟩ := (HF6.out hb1).agg
        subst hxc
        obtain ⟨g, s8, A8, n8, c8, hxb, hgB, hbk, _⟩ := HF8.out hb2
        subst hxb
        have f1 := hbk.cell (i := 0) rfl
        have f2 := hbk.cell (i := 1) rfl
        have f3 := hbk.frozen 0
        have f4 := hbk.frozen 1
        have Hb1 := hide hb1
        have Hb2 := hide hb2
        have hsz := hup.size
        clear hb1 hb2
        refine wpOp_step rfl (fun K hK => ?_)
        go_simp
        refine hK _ _ ?_
        clear hK K
        exact ⟨b0, b1, b2, b3, b4, b5, b6, b7, b8, true, b10, p0, p1, p2, p3, p4, p5, .agg #[.bool s9, .slice A9 n9 c9], p7, .pointer (some ⟨g, 0, none⟩), p10, rfl, rfl, hup.two (g := g) hgB _ _, (fun h => (HF0.out h).boxed hbk _ _), (fun h => (HF1.out h).boxed hbk _ _), (fun h => (HF2.out h).boxed hbk _ _), (fun h => (HF3.out h).boxed hbk _ _), (fun h => by obtain ⟨q0, rq, r0⟩ := HF4.out h; exact ⟨q0, rq, r0.boxed hbk _ _⟩), (fun h => by obtain ⟨q0, rq, r0⟩ := HF5.out h; exact ⟨q0, rq, r0.boxed hbk _ _⟩), (fun h => (HF6.out h).boxed hbk _ _), HF7.out, (fun _ => hbk.fill hgB), (fun _ => ⟨Hb2.out, Hb1.out⟩), HF10.out⟩
      · skip
        have hb : b7 = true := getB (l := [b0, b1, b2, b3, b4, b5, b6, b7, b8, b9, b10]) (ready_dep hi rfl 7 (by kernel_rfl)) rfl
        have hx := hide (HF7.out hb)
        clear hb
        clear hi
        refine wpOp_step rfl (fun K hK => ?_)
        go_simp
        refine hK _ _ ?_
        clear hK K
        exact ⟨b0, b1, b2, b3, b4, b5, b6, b7, b8, b9, true, p0, p1, p2, p3, p4, p5, p6, p7, p8, p7, rfl, rfl, hup, HF0.out, HF1.out, HF2.out, HF3.out, HF4.out, HF5.out, HF6.out, HF7.out, HF8.out, HF9.out, (fun _ => hx.out)⟩
    case hQ =>
      rintro l a W ⟨b0, b1, b2, b3, b4, b5, b6, b7, b8, b9, b10, p0, p1, p2, p3, p4, p5, p6, p7, p8, p10, rfl, rfl, hup, hF0, hF1, hF2, hF3, hF4, hF5, hF6, hF7, hF8, hF9, hF10⟩ hall
      have hb0 : b0 = true := getB (l := [b0, b1, b2, b3, b4, b5, b6, b7, b8, b9, b10]) (hall 0 (by decide)) rfl
      have hb1 : b1 = true := getB (l := [b0, b1, b2, b3, b4, b5, b6, b7, b8, b9, b10]) (hall 1 (by decide)) rfl
      have hb2 : b2 = true := getB (l := [b0, b1, b2, b3, b4, b5, b6, b7, b8, b9, b10]) (hall 2 (by decide)) rfl
      have hb3 : b3 = true := getB (l := [b0, b1, b2, b3, b4, b5, b6, b7, b8, b9, b10]) (hall 3 (by decide)) rfl
      have hb4 : b4 = true := getB (l := [b0, b1, b2, b3, b4, b5, b6, b7, b8, b9, b10]) (hall 4 (by decide)) rfl
      have hb5 : b5 = true := getB (l := [b0, b1, b2, b3, b4, b5, b6, b7, b8, b9, b10]) (hall 5 (by decide)) rfl
      have hb6 : b6 = true := getB (l := [b0, b1, b2, b3, b4, b5, b6, b7, b8, b9, b10]) (hall 6 (by decide)) rfl
      have hb7 : b7 = true := getB (l := [b0, b1, b2, b3, b4, b5, b6, b7, b8, b9, b10]) (hall 7 (by decide)) rfl
      have hb8 : b8 = true := getB (l := [b0, b1, b2, b3, b4, b5, b6, b7, b8, b9, b10]) (hall 8 (by decide)) rfl
      have hb9 : b9 = true := getB (l := [b0, b1, b2, b3, b4, b5, b6, b7, b8, b9, b10]) (hall 9 (by decide)) rfl
      have hb10 : b10 = true := getB (l := [b0, b1, b2, b3, b4, b5, b6, b7, b8, b9, b10]) (hall 10 (by decide)) rfl
      subst hb0 hb1 hb2 hb3 hb4 hb5 hb6 hb7 hb8 hb9 hb10
      clear hall
      have m0 := hF0 rfl
      have m1 := hF1 rfl
      have m2 := hF2 rfl
      have m3 := hF3 rfl
      have m4 := hF4 rfl
      have m5 := hF5 rfl
      have m6 := hF6 rfl
      have m7 := hF7 rfl
      have m8 := hF8 rfl
      have m10 := hF10 rfl
      clear hF0 hF1 hF2 hF3 hF4 hF5 hF6 hF7 hF8 hF9 hF10
      obtain ⟨g7, s7, A7, n7, c7, rfl, hg7, hk7, he7⟩ := m8
      obtain rfl := he7 rfl
      obtain rfl := m7
      obtain rfl := m10
      have hp7 := m6
      clear m0 m1 m2 m3 m4 m6 he7 m5
      have hx := hx.up hup
      have hy := hy.up hup
      have hk5 := hk5.up hup
      have hk6 := hk6.up hup
      have hupw := hupw.trans hup
      clear hup
      have hk5a := hk5.cell (i := 0) rfl
      have hk5b := hk5.cell (i := 1) rfl
      have hk5l := hk5.lt
      have hk6a := hk6.cell (i := 0) rfl
      have hk6b := hk6.cell (i := 1) rfl
      have hk6l := hk6.lt
      go_wp2_with fail
      refine (raddI_any 0 0 _ _ x y _ hx hy hxt hyt).mono ?_
      rintro e wb ⟨v8, rfl, hv8, hupb⟩
      obtain ⟨s8, A8, n8, c8, rfl⟩ := hv8.agg
      clear hk5a hk5b hk5l hk6a hk6b hk6l
      go_wp2_with fail
      obtain ⟨wc, hwc⟩ : ∃ x, x = wb.alloc (.cells #[.bool s8, .slice A8 n8 c8] 24) := ⟨_, rfl⟩
      have hk8 : Bk wc wb.heap.size 24 #[.bool s8, .slice A8 n8 c8] := by rw [hwc]; exact Bk.new wb _ _
      have hupc : Up wb wc := by rw [hwc]; exact (Up.refl wb).alloc _
      rw [← hwc]
      clear hwc
      have hupb := hupb.trans hupc
      have hv8 := hv8.up hupc
      have hx := hx.up hupb
      have hy := hy.up hupb
      have hk5 := hk5.up hupb
      have hk6 := hk6.up hupb
      have hk7 := hk7.up hupb
      have hp7 := hp7.up hupb
      have hupw := hupw.trans hupb
      clear hupb hupc
      refine region_inv (fun l a W => ∃ (b0 b1 b2 b3 b4 b5 b6 b7 b8 b9 b10 : Bool) (q0 q1 q2 q3 q4 q5 q6 q7 q8 q10 : Value), l = #[b0, b1, b2, b3, b4, b5, b6, b7, b8, b9, b10] ∧ a = { tmps := #[.agg #[.bool s, .slice A n c], .agg #[.bool t, .slice C m d], .pointer (some ⟨w.heap.size, 0, none⟩), .pointer (some ⟨w.heap.size + 1, 0, none⟩), .bool false, .pointer (some ⟨g5, 0, none⟩), .pointer (some ⟨g6, 0, none⟩), .pointer (some ⟨g7, 0, none⟩), .int .i64 (bndE (x + y)), .pointer (some ⟨wb.heap.size, 0, none⟩), .int .i64 (bndE (x + y)), q8, q10, undef, undef, .agg #[.bool s, .slice A n c], .agg #[.bool s5, .slice A5 n5 c5], .agg #[.bool t, .slice C m d], .agg #[.bool s6, .slice A6 n6 c6], .bool true, .bool false, p5, p0, p1, p2, p3, p4, .agg #[.bool s7, .slice A7 n7 c7], .int .i64 (bndE (x + y)), .tuple #[.agg #[.bool s8, .slice A8 n8 c8], .int .i64 (bndE (x + y))], .agg #[.bool s5, .slice A5 n5 c5], .agg #[.bool s6, .slice A6 n6 c6], .tuple #[.agg #[.bool s8, .slice A8 n8 c8], .int .i64 (bndE (x + y))], .agg #[.bool s8, .slice A8 n8 c8], .int .i64 (bndE (x + y)), q5, q0, q1, q2, q3, q4, q6, q7, undef, undef, undef, undef, undef, undef, undef, undef, undef, undef, undef, undef, undef, undef, undef, undef, undef, undef, undef, undef, undef, undef, undef, undef, undef, undef, undef, undef, undef, undef, undef, undef], defers := [] } ∧ Up wc W ∧ (b0 = true → IsInt 0 W q0 (x)) ∧ (b1 = true → IsInt 0 W q1 (x)) ∧ (b2 = true → IsInt 0 W q2 (y)) ∧ (b3 = true → IsInt 0 W q3 (y)) ∧ (b4 = true → ∃ v0 : Value, q4 = .tuple #[v0, .int .i64 (bndE (x - y))] ∧ IsInt 0 W v0 (bnd (x - y))) ∧ (b5 = true → ∃ v0 : Value, q5 = .tuple #[v0, .int .i64 (bndE (x - y))] ∧ IsInt 0 W v0 (bnd (x - y))) ∧ (b6 = true → IsInt 0 W q6 (bnd (x - y))) ∧ (b7 = true → q7 = .int .i64 (bndE (x - y))) ∧ (b8 = true → Box (wc.heap.size) W q8 b9 q6) ∧ (b9 = true → b8 = true ∧ b6 = true) ∧ (b10 = true → q10 = .int .i64 (bndE (x - y)))) (by kernel_rfl) (by kernel_rfl) ?hs ?h0 ?hstep ?hQ
      case hs => rintro l a W ⟨b0, b1, b2, b3, b4, b5, b6, b7, b8, b9, b10, q0, q1, q2, q3, q4, q5, q6, q7, q8, q10, rfl, rfl, hup, hF0, hF1, hF2, hF3, hF4, hF5, hF6, hF7, hF8, hF9, hF10⟩; rfl
      case h0 => exact ⟨false, false, false, false, false, false, false, false, false, false, false, undef, undef, undef, undef, undef, undef, undef, undef, undef, undef, rfl, rfl, (Up.refl wc).drew, (fun h => by cases h), (fun h => by cases h), (fun h => by cases h), (fun h => by cases h), (fun h => by cases h), (fun h => by cases h), (fun h => by cases h), (fun h => by cases h), (fun h => by cases h), (fun h => by cases h), (fun h => by cases h)⟩
      case hstep =>
        rintro l a W ⟨b0, b1, b2, b3, b4, b5, b6, b7, b8, b9, b10, q0, q1, q2, q3, q4, q5, q6, q7, q8, q10, rfl, rfl, hup, hF0, hF1, hF2, hF3, hF4, hF5, hF6, hF7, hF8, hF9, hF10⟩ i hi
        have hlt : i < 11 := ready_lt hi
        have HF0 := hide hF0
        have HF1 := hide hF1
        have HF2 := hide hF2
        have HF3 := hide hF3
        have HF4 := hide hF4
        have HF5 := hide hF5
        have HF6 := hide hF6
        have HF7 := hide hF7
        have HF8 := hide hF8
        have HF9 := hide hF9
        have HF10 := hide hF10
        clear hF0 hF1 hF2 hF3 hF4 hF5 hF6 hF7 hF8 hF9 hF10
        have hcase : i = 0 ∨ i = 1 ∨ i = 2 ∨ i = 3 ∨ i = 4 ∨ i = 5 ∨ i = 6 ∨ i = 7 ∨ i = 8 ∨ i = 9 ∨ i = 10 := by omega
        clear hlt
        rcases hcase with rfl | rfl | rfl | rfl | rfl | rfl | rfl | rfl | rfl | rfl | rfl
        · skip
          have k0 := hk5.up hup
          have k1 := k0.cell (i := 0) rfl
          have k2 := k0.cell (i := 1) rfl
          clear hi
          refine wpOp_step rfl (fun K hK => ?_)
          go_simp
          refine hK _ _ ?_
          clear hK K
          exact ⟨true, b1, b2, b3, b4, b5, b6, b7, b8, b9, b10, .agg #[.bool s5, .slice A5 n5 c5], q1, q2, q3, q4, q5, q6, q7, q8, q10, rfl, rfl, hup, (fun _ => hx.up hup), HF1.out, HF2.out, HF3.out, HF4.out, HF5.out, HF6.out, HF7.out, HF8.out, HF9.out, HF10.out⟩
        · skip
          have hb : b0 = true := getB (l := [b0, b1, b2, b3, b4, b5, b6, b7, b8, b9, b10]) (ready_dep hi rfl 0 (by kernel_rfl)) rfl
          have hx := hide (HF0.out hb)
          clear hb
          clear hi
          refine wpOp_step rfl (fun K hK => ?_)
          go_simp
          refine (ownI 0 _ _ _ hx.out (by assumption)).mono ?_
          rintro e w1 ⟨v1, rfl, hv1, hup1⟩
          go_wp2_with fail
          exact ⟨b0, true, b2, b3, b4, b5, b6, b7, b8, b9, b10, q0, v1, q2, q3, q4, q5, q6, q7, q8, q10, rfl, rfl, hup.trans hup1, (fun h => (HF0.out h).up hup1), (fun _ => hv1.mono (Nat.zero_le _)), (fun h => (HF2.out h).up hup1), (fun h => (HF3.out h).up hup1), (fun h => by obtain ⟨q0, rq, r0⟩ := HF4.out h; exact ⟨q0, rq, r0.up hup1⟩), (fun h => by obtain ⟨q0, rq, r0⟩ := HF5.out h; exact ⟨q0, rq, r0.up hup1⟩), (fun h => (HF6.out h).up hup1), HF7.out, (fun h => (HF8.out h).up hup1), HF9.out, HF10.out⟩
        · skip
          have k0 := hk6.up hup
          have k1 := k0.cell (i := 0) rfl
          have k2 := k0.cell (i := 1) rfl
          clear hi
          refine wpOp_step rfl (fun K hK => ?_)
          go_simp
          refine hK _ _ ?_
          clear hK K
          exact ⟨b0, b1, true, b3, b4, b5, b6, b7, b8, b9, b10, q0, q1, .agg #[.bool s6, .slice A6 n6 c6], q3, q4, q5, q6, q7, q8, q10, rfl, rfl, hup, HF0.out, HF1.out, (fun _ => hy.up hup), HF3.out, HF4.out, HF5.out, HF6.out, HF7.out, HF8.out, HF9.out, HF10.out⟩
        · skip
          have hb : b2 = true := getB (l := [b0, b1, b2, b3, b4, b5, b6, b7, b8, b9, b10]) (ready_dep hi rfl 2 (by kernel_rfl)) rfl
          have hx := hide (HF2.out hb)
          clear hb
          clear hi
          refine wpOp_step rfl (fun K hK => ?_)
          go_simp
          refine (ownI 0 _ _ _ hx.out (by assumption)).mono ?_
          rintro e w1 ⟨v1, rfl, hv1, hup1⟩
          go_wp2_with fail
          exact ⟨b0, b1, b2, true, b4, b5, b6, b7, b8, b9, b10, q0, q1, q2, v1, q4, q5, q6, q7, q8, q10, rfl, rfl, hup.trans hup1, (fun h => (HF0.out h).up hup1), (fun h => (HF1.out h).up hup1), (fun h => (HF2.out h).up hup1), (fun _ => hv1.mono (Nat.zero_le _)), (fun h => by obtain ⟨q0, rq, r0⟩ := HF4.out h; exact ⟨q0, rq, r0.up hup1⟩), (fun h => by obtain ⟨q0, rq, r0⟩ := HF5.out h; exact ⟨q0, rq, r0.up hup1⟩), (fun h => (HF6.out h).up hup1), HF7.out, (fun h => (HF8.out h).up hup1), HF9.out, HF10.out⟩
        · skip
          have hb0q : b1 = true := getB (l := [b0, b1, b2, b3, b4, b5, b6, b7, b8, b9, b10]) (ready_dep hi rfl 1 (by kernel_rfl)) rfl
          have hx0 := hide (HF1.out hb0q)
          clear hb0q
          have hb1q : b3 = true := getB (l := [b0, b1, b2, b3, b4, b5, b6, b7, b8, b9, b10]) (ready_dep hi rfl 3 (by kernel_rfl)) rfl
          have hx1 := hide (HF3.out hb1q)
          clear hb1q
          clear hi
          refine wpOp_step rfl (fun K hK => ?_)
          go_simp
          refine (sub_any 0 0 _ _ x y _ hx0.out hx1.out hxt hyt).mono ?_
          rintro e w1 ⟨v0, rfl, hv0, hup1⟩
          go_wp2_with fail
          exact ⟨b0, b1, b2, b3, true, b5, b6, b7, b8, b9, b10, q0, q1, q2, q3, .tuple #[v0, .int .i64 (bndE (x - y))], q5, q6, q7, q8, q10, rfl, rfl, hup.trans hup1, (fun h => (HF0.out h).up hup1), (fun h => (HF1.out h).up hup1), (fun h => (HF2.out h).up hup1), (fun h => (HF3.out h).up hup1), (fun _ => ⟨v0, rfl, hv0.mono (Nat.zero_le _)⟩), (fun h => by obtain ⟨q0, rq, r0⟩ := HF5.out h; exact ⟨q0, rq, r0.up hup1⟩), (fun h => (HF6.out h).up hup1), HF7.out, (fun h => (HF8.out h).up hup1), HF9.out, HF10.out⟩
        · skip
          have hb : b4 = true := getB (l := [b0, b1, b2, b3, b4, b5, b6, b7, b8, b9, b10]) (ready_dep hi rfl 4 (by kernel_rfl)) rfl
          have hx := hide (HF4.out hb)
          clear hb
          clear hi
          refine wpOp_step rfl (fun K hK => ?_)
          go_simp
          refine hK _ _ ?_
          clear hK K
          exact ⟨b0, b1, b2, b3, b4, true, b6, b7, b8, b9, b10, q0, q1, q2, q3, q4, q4, q6, q7, q8, q10, rfl, rfl, hup, HF0.out, HF1.out, HF2.out, HF3.out, HF4.out, (fun _ => hx.out), HF6.out, HF7.out, HF8.out, HF9.out, HF10.out⟩
        · skip
          have hb : b5 = true := getB (l := [b0, b1, b2, b3, b4, b5, b6, b7, b8, b9, b10]) (ready_dep hi rfl 5 (by kernel_rfl)) rfl
          have Hb := hide hb
          obtain ⟨v0, hxe, hv0⟩ := HF5.out hb
          clear hb
          subst hxe
          have hn := ready_not hi
          have hst9 : b9 = false := by
            cases e : b9 with
            | false => rfl
            | true => have h5 := (HF9.out e).2; rw [h5] at hn; cases hn
          have Hst9 := hide hst9
          clear hst9
          clear hn
          clear hi
          refine wpOp_step rfl (fun K hK => ?_)
          go_simp
          refine hK _ _ ?_
          clear hK K
          exact ⟨b0, b1, b2, b3, b4, b5, true, b7, b8, b9, b10, q0, q1, q2, q3, q4, .tuple #[v0, .int .i64 (bndE (x - y))], v0, q7, q8, q10, rfl, rfl, hup, HF0.out, HF1.out, HF2.out, HF3.out, HF4.out, HF5.out, (fun _ => hv0), HF7.out, (fun h => by rw [Hst9.out] at *; obtain ⟨g, s, A, n, c, h1, h2, h3, _⟩ := HF8.out h; exact ⟨g, s, A, n, c, h1, h2, h3.up (Up.refl _), fun h => by cases h⟩), (fun h => ⟨(HF9.out h).1, rfl⟩), HF10.out⟩
        · skip
          have hb : b5 = true := getB (l := [b0, b1, b2, b3, b4, b5, b6, b7, b8, b9, b10]) (ready_dep hi rfl 5 (by kernel_rfl)) rfl
          have Hb := hide hb
          obtain ⟨v0, hxe, hv0⟩ := HF5.out hb
          clear hb
          subst hxe
          clear hi
          refine wpOp_step rfl (fun K hK => ?_)
          go_simp
          refine hK _ _ ?_
          clear hK K
          exact ⟨b0, b1, b2, b3, b4, b5, b6, true, b8, b9, b10, q0, q1, q2, q3, q4, .tuple #[v0, .int .i64 (bndE (x - y))], q6, .int .i64 (bndE (x - y)), q8, q10, rfl, rfl, hup, HF0.out, HF1.out, HF2.out, HF3.out, HF4.out, HF5.out, HF6.out, (fun _ => rfl), HF8.out, HF9.out, HF10.out⟩
        · skip
          have hn := ready_not hi
          have hst9 : b9 = false := by
            cases e : b9 with
            | false => rfl
            | true => have h5 := (HF9.out e).1; rw [h5] at hn; cases hn
          have Hst9 := hide hst9
          clear hst9
          clear hn
          clear hi
          have hsz := hup.size
          have hupA := (Up.refl W).alloc (.cells #[.bool false, .slice none 0 0] 24)
          refine wpOp_step rfl (fun K hK => ?_)
          go_simp
          refine hK _ _ ?_
          clear hK K
          exact ⟨b0, b1, b2, b3, b4, b5, b6, b7, true, b9, b10, q0, q1, q2, q3, q4, q5, q6, q7, .pointer (some ⟨W.heap.size, 0, none⟩), q10, rfl, rfl, hup.trans hupA, (fun h => (HF0.out h).up hupA), (fun h => (HF1.out h).up hupA), (fun h => (HF2.out h).up hupA), (fun h => (HF3.out h).up hupA), (fun h => by obtain ⟨q0, rq, r0⟩ := HF4.out h; exact ⟨q0, rq, r0.up hupA⟩), (fun h => by obtain ⟨q0, rq, r0⟩ := HF5.out h; exact ⟨q0, rq, r0.up hupA⟩), (fun h => (HF6.out h).up hupA), HF7.out, (fun _ => by rw [Hst9.out]; exact Box.new _ W _ hsz), (fun h => ⟨rfl, (HF9.out h).2⟩), HF10.out⟩
        · skip
          have hb2 : b8 = true := getB (l := [b0, b1, b2, b3, b4, b5, b6, b7, b8, b9, b10]) (ready_dep hi rfl 8 (by kernel_rfl)) rfl
          have hb1 : b6 = true := getB (l := [b0, b1, b2, b3, b4, b5, b6, b7, b8, b9, b10]) (ready_dep hi rfl 6 (by kernel_rfl)) rfl
          clear hi
          obtain ⟨s9, A9, n9, c9, hxc⟩ := (HF6.out hb1).agg
          subst hxc
          obtain ⟨g, s8, A8, n8, c8, hxb, hgB, hbk, _⟩ := HF8.out hb2
          subst hxb
          have f1 := hbk.cell (i := 0) rfl
          have f2 := hbk.cell (i := 1) rfl
          have f3 := hbk.frozen 0
          have f4 := hbk.frozen 1
          have Hb1 := hide hb1
          have Hb2 := hide hb2
          have hsz := hup.size
          clear hb1 hb2
          refine wpOp_step rfl (fun K hK => ?_)
          go_simp
          refine hK _ _ ?_
          clear hK K
          exact ⟨b0, b1, b2, b3, b4, b5, b6, b7, b8, true, b10, q0, q1, q2, q3, q4, q5, .agg #[.bool s9, .slice A9 n9 c9], q7, .pointer (some ⟨g, 0, none⟩), q10, rfl, rfl, hup.two (g := g) hgB _ _, (fun h => (HF0.out h).boxed hbk _ _), (fun h => (HF1.out h).boxed hbk _ _), (fun h => (HF2.out h).boxed hbk _ _), (fun h => (HF3.out h).boxed hbk _ _), (fun h => by obtain ⟨q0, rq, r0⟩ := HF4.out h; exact ⟨q0, rq, r0.boxed hbk _ _⟩), (fun h => by obtain ⟨q0, rq, r0⟩ := HF5.out h; exact ⟨q0, rq, r0.boxed hbk _ _⟩), (fun h => (HF6.out h).boxed hbk _ _), HF7.out, (fun _ => hbk.fill hgB), (fun _ => ⟨Hb2.out, Hb1.out⟩), HF10.out⟩
        · skip
          have hb : b7 = true := getB (l := [b0, b1, b2, b3, b4, b5, b6, b7, b8, b9, b10]) (ready_dep hi rfl 7 (by kernel_rfl)) rfl
          have hx := hide (HF7.out hb)
          clear hb
          clear hi
          refine wpOp_step rfl (fun K hK => ?_)
          go_simp
          refine hK _ _ ?_
          clear hK K
          exact ⟨b0, b1, b2, b3, b4, b5, b6, b7, b8, b9, true, q0, q1, q2, q3, q4, q5, q6, q7, q8, q7, rfl, rfl, hup, HF0.out, HF1.out, HF2.out, HF3.out, HF4.out, HF5.out, HF6.out, HF7.out, HF8.out, HF9.out, (fun _ => hx.out)⟩
      case hQ =>
        rintro l a W ⟨b0, b1, b2, b3, b4, b5, b6, b7, b8, b9, b10, q0, q1, q2, q3, q4, q5, q6, q7, q8, q10, rfl, rfl, hup, hF0, hF1, hF2, hF3, hF4, hF5, hF6, hF7, hF8, hF9, hF10⟩ hall
        have hb0 : b0 = true := getB (l := [b0, b1, b2, b3, b4, b5, b6, b7, b8, b9, b10]) (hall 0 (by decide)) rfl
        have hb1 : b1 = true := getB (l := [b0, b1, b2, b3, b4, b5, b6, b7, b8, b9, b10]) (hall 1 (by decide)) rfl
        have hb2 : b2 = true := getB (l := [b0, b1, b2, b3, b4, b5, b6, b7, b8, b9, b10]) (hall 2 (by decide)) rfl
        have hb3 : b3 = true := getB (l := [b0, b1, b2, b3, b4, b5, b6, b7, b8, b9, b10]) (hall 3 (by decide)) rfl
        have hb4 : b4 = true := getB (l := [b0, b1, b2, b3, b4, b5, b6, b7, b8, b9, b10]) (hall 4 (by decide)) rfl
        have hb5 : b5 = true := getB (l := [b0, b1, b2, b3, b4, b5, b6, b7, b8, b9, b10]) (hall 5 (by decide)) rfl
        have hb6 : b6 = true := getB (l := [b0, b1, b2, b3, b4, b5, b6, b7, b8, b9, b10]) (hall 6 (by decide)) rfl
        have hb7 : b7 = true := getB (l := [b0, b1, b2, b3, b4, b5, b6, b7, b8, b9, b10]) (hall 7 (by decide)) rfl
        have hb8 : b8 = true := getB (l := [b0, b1, b2, b3, b4, b5, b6, b7, b8, b9, b10]) (hall 8 (by decide)) rfl
        have hb9 : b9 = true := getB (l := [b0, b1, b2, b3, b4, b5, b6, b7, b8, b9, b10]) (hall 9 (by decide)) rfl
        have hb10 : b10 = true := getB (l := [b0, b1, b2, b3, b4, b5, b6, b7, b8, b9, b10]) (hall 10 (by decide)) rfl
        subst hb0 hb1 hb2 hb3 hb4 hb5 hb6 hb7 hb8 hb9 hb10
        clear hall
        have m0 := hF0 rfl
        have m1 := hF1 rfl
        have m2 := hF2 rfl
        have m3 := hF3 rfl
        have m4 := hF4 rfl
        have m5 := hF5 rfl
        have m6 := hF6 rfl
        have m7 := hF7 rfl
        have m8 := hF8 rfl
        have m10 := hF10 rfl
        clear hF0 hF1 hF2 hF3 hF4 hF5 hF6 hF7 hF8 hF9 hF10
        obtain ⟨g11, s11, A11, n11, c11, rfl, hg11, hk11, he11⟩ := m8
        obtain rfl := he11 rfl
        obtain rfl := m7
        obtain rfl := m10
        have hp11 := m6
        clear m0 m1 m2 m3 m4 m6 he11 m5
        have hx := hx.up hup
        have hy := hy.up hup
        have hk5 := hk5.up hup
        have hk6 := hk6.up hup
        have hk7 := hk7.up hup
        have hp7 := hp7.up hup
        have hk8 := hk8.up hup
        have hv8 := hv8.up hup
        have hupw := hupw.trans hup
        clear hup
        have hk5a := hk5.cell (i := 0) rfl
        have hk5b := hk5.cell (i := 1) rfl
        have hk5l := hk5.lt
        have hk6a := hk6.cell (i := 0) rfl
        have hk6b := hk6.cell (i := 1) rfl
        have hk6l := hk6.lt
        go_wp2_with fail
        refine (rsubI_any 0 0 _ _ x y _ hx hy hxt hyt).mono ?_
        rintro e wd ⟨v13, rfl, hv13, hupd⟩
        obtain ⟨s13, A13, n13, c13, rfl⟩ := hv13.agg
        clear hk5a hk5b hk5l hk6a hk6b hk6l
        clear hx hy hk5 hk6
        have hk7 := hk7.up hupd
        have hk8 := hk8.up hupd
        have hk11 := hk11.up hupd
        have hp7 := hp7.up hupd
        have hv8 := hv8.up hupd
        have hp11 := hp11.up hupd
        have hk7a := hk7.cell (i := 0) rfl
        have hk7b := hk7.cell (i := 1) rfl
        have hk7l := hk7.lt
        have hk8a := hk8.cell (i := 0) rfl
        have hk8b := hk8.cell (i := 1) rfl
        have hk8l := hk8.lt
        have hk11a := hk11.cell (i := 0) rfl
        have hk11b := hk11.cell (i := 1) rfl
        have hk11l := hk11.lt
        have hupe := (Up.refl wd).alloc (.cells #[.bool s13, .slice A13 n13 c13] 24)
        have hk13 := Bk.new wd 24 #[.bool s13, .slice A13 n13 c13]
        have hv13 := hv13.up hupe
        have hupw := (hupw.trans hupd).trans hupe
        have hk7 := hk7.up hupe
        have hk8 := hk8.up hupe
        have hk11 := hk11.up hupe
        have hp7 := hp7.up hupe
        have hv8 := hv8.up hupe
        have hp11 := hp11.up hupe
        clear hupd hupe
        go_wp2_with fail
        refine (equalI _ _ _ _ (bnd (x + y)) _ hp7 hv8 (bnd_lt _)).mono ?_
        rintro e wf ⟨rfl, hupf⟩
        clear hk7a hk7b hk7l hk8a hk8b hk8l hk11a hk11b hk11l
        clear hv8
        have hk7 := hk7.up hupf
        have hk11 := hk11.up hupf
        have hk13 := hk13.up hupf
        have hp7 := hp7.up hupf
        have hp11 := hp11.up hupf
        have hv13 := hv13.up hupf
        have hupw := hupw.trans hupf
        clear hupf
        have hk7a := hk7.cell (i := 0) rfl
        have hk7b := hk7.cell (i := 1) rfl
        have hk7l := hk7.lt
        have hk11a := hk11.cell (i := 0) rfl
        have hk11b := hk11.cell (i := 1) rfl
        have hk11l := hk11.lt
        have hk13a := hk13.cell (i := 0) rfl
        have hk13b := hk13.cell (i := 1) rfl
        have hk13l := hk13.lt
        go_wp2_with fail
        refine (equalI _ _ _ _ (bnd (x - y)) _ hp11 hv13 (bnd_lt _)).mono ?_
        rintro e wg ⟨rfl, hupg⟩
        clear hk7a hk7b hk7l hk11a hk11b hk11l hk13a hk13b hk13l
        clear hv13
        have hk7 := hk7.up hupg
        have hk11 := hk11.up hupg
        have hp7 := hp7.up hupg
        have hp11 := hp11.up hupg
        have hupw := hupw.trans hupg
        clear hupg
        have hk7a := hk7.cell (i := 0) rfl
        have hk7b := hk7.cell (i := 1) rfl
        have hk7l := hk7.lt
        have hk11a := hk11.cell (i := 0) rfl
        have hk11b := hk11.cell (i := 1) rfl
        have hk11l := hk11.lt
        go_wp2_with fail
        refine (validI_any _ _ (bnd (x + y)) _ hp7 (bnd_lt _)).mono ?_
        rintro e wh ⟨rfl, huph⟩
        clear hk7a hk7b hk7l hk11a hk11b hk11l
        have hk11 := hk11.up huph
        have hp11 := hp11.up huph
        have hupw := hupw.trans huph
        clear huph
        have hk11a := hk11.cell (i := 0) rfl
        have hk11b := hk11.cell (i := 1) rfl
        have hk11l := hk11.lt
        go_wp2_with fail
        refine (validI_any _ _ (bnd (x - y)) _ hp11 (bnd_lt _)).mono ?_
        rintro e wi ⟨rfl, hupi⟩
        go_wp2
        go_ret
        exact ⟨rfl, hupw.trans hupi⟩
set_option maxRecDepth 100000 in
theorem lifted_integerSum (os : Os) (started : os.Started) (H : Type) (enc : TypeId × Value → H) :
    ReturnsInHanded {} Try.checked os 5 .any (Rows.integerSumSpec.pre6 enc Try.prog Try.f5 Rows.integerSumRow.domain false) (Rows.integerSumSpec.post enc Try.prog Try.f5 false true false false) := by
  refine returnsInHanded_of_change (C := Try.checked) ownK started (by kernel_rfl) Try.func5
    (ChangeSpec.witness6 (enc := enc) (C := Try.checked) false ⟨#[], #[.agg #[.bool false, .slice none 0 0], .agg #[.bool false, .slice none 0 0]], []⟩ 8 (by kernel_rfl) (by kernel_rfl) (by kernel_rfl) (by kernel_rfl)) ?_
  intro W base args ds gs before hval0 hW hcnd _
  have hval : ∀ (j : Nat) t v, Try.f5.params[j]? = some t → args[j]? = some v → Value.okWide Try.prog W .any base t v := hval0
  have hW' := hW
  obtain ⟨p, q, hA0, hV, rfl, hfz, hnd⟩ := hW
  have hA : DataW.TrodAll enc Try.prog W 0 (fun _ => true) true Try.f5.params.toList args.toList ds p := hA0
  rw [Try.params5] at hA hval
  obtain ⟨v0, vs0, d0, ds0, p0, q0, hargs, rfl, rfl, h0, r0⟩ := trodAll_cons hA
  obtain ⟨v1, vs1, d1, ds1, p1, q1, rfl, rfl, rfl, h1, r1⟩ := trodAll_cons r0
  obtain ⟨rfl, rfl, rfl⟩ := trodAll_nil r1
  obtain rfl : args = #[v0, v1] := by cases args; simp_all
  obtain ⟨rfl, rfl⟩ := trodVars_none hV
  have k0 := h0
  have lt0 : ∀ x ∈ p0, x.block < W.heap.size := by obtain ⟨m, hm⟩ := k0; exact DataW.trod_lt m _ _ _ hm
  have w0 : RawIn W v0 := raw_open Try.underlying37 (by kernel_rfl) (by kernel_rfl) (by kernel_rfl) (by kernel_rfl) (hval 0 37 v0 rfl rfl) h0
  have k1 := h1
  have lt1 : ∀ x ∈ p1, x.block < W.heap.size := by obtain ⟨m, hm⟩ := k1; exact DataW.trod_lt m _ _ _ hm
  have w1 : RawIn W v1 := raw_open Try.underlying37 (by kernel_rfl) (by kernel_rfl) (by kernel_rfl) (by kernel_rfl) (hval 1 37 v1 rfl rfl) h1
  clear hA0 hval0
  refine (sumW v0 v1 W w0 w1).mono fun e W' ⟨he, bel0⟩ => ?_
  have bel : Below W.heap.size W W' := bel0
  subst he
  exact ⟨_, rfl, _, _, _, [], _, [], hW', trodAll_mk1 (shut_bool Try.underlying4 _), (trodAll_cons_mk (Below.trod laidOut (by kernel_rfl) (of_decide_eq_true (by kernel_rfl)) k0 bel lt0) (trodAll_cons_mk (Below.trod laidOut (by kernel_rfl) (of_decide_eq_true (by kernel_rfl)) k1 bel lt1) trodAll_mk0)), rfl, bel.frame _, fun h => by cases h⟩

theorem over_integerSum : Rows.integerSumRow.holds Try.pinned (OpenSpec.ofChange Rows.integerSumSpec) :=
  OpenClaim.holds_of_wide 5 Try.f5 rfl rfl rfl rfl rfl rfl rfl ⟨rfl, rfl, rfl, rfl, rfl⟩ rfl rfl rfl rfl rfl (by kernel_rfl) Try.func5 (by kernel_rfl)
    (of_decide_eq_true (by kernel_rfl)) (by unfold Func.isWrapper; first | (rw [if_pos (by decide +kernel)]; kernel_rfl) | (rw [if_neg (by decide +kernel)]; exact ⟨rfl, rfl⟩))
    (fun os started H enc _ => lifted_integerSum os started H enc)

theorem integerSum_holds : Rows.IntegerSumSaid := over_integerSum
end Go.Proofs.Ytbfbemgfdcehfaa
