/- For every two drafts, Div returns the reference's quotient and remainder, which give the dividend again, the remainder less than the divisor, or ErrZero. No condition. -/
import Derived.Test.YtnelnobcecnhlaaInv2
import Derived.Test.YtnelnobcecnhlaaH1
import Derived.Test.YtnelnobcecnhlaaK4
import Derived.Test.YtnelnobcecnhlaaC7
namespace Go.Proofs.Ytnelnobcecnhlaa
open Go.RowKit

open Go.ChangeShapes Go.WideShapes Go.ChangeAt

theorem rsignI (B : Nat) (v : Value) (x : Int) (w : World) (hv : IsInt B w v x) (hx : x.natAbs < top300) : Calls Try.prog 21 #[v] w fun e w' => e = .returned (.int .i64 x.sign) ∧ Up w w' := by
  obtain ⟨s, A, n, c, rfl, Hs, Hn, hl, hc, _⟩ := hv
  rw [← sgV_int Hs Hn]
  exact rsignV_any s A c n w (by rw [Hn.out]; have := len_of_top hx; omega)
theorem rsignZ (v : Value) (x : Int) (w : World) (hv : IsInt 0 w v x) (hx : x.natAbs < top300) (h0 : x = 0) : Calls Try.prog 21 #[v] w fun e w' => e = .returned (.int .i64 0) ∧ Up w w' := by
  have h := rsignI 0 v x w hv hx
  rw [h0] at h
  exact h
theorem tdiv_top {x y : Int} (hx : x.natAbs < top300) : (x.tdiv y).natAbs < top300 := by
  rw [Int.natAbs_tdiv]; exact Nat.lt_of_le_of_lt (Nat.div_le_self _ _) hx
theorem tmod_top {x y : Int} (hx : x.natAbs < top300) : (x.tmod y).natAbs < top300 := by
  rw [Int.natAbs_tmod]; exact Nat.lt_of_le_of_lt (Nat.mod_le _ _) hx
theorem zero_top : (0 : Int).natAbs < top300 := by have := bas_pos 33; simp [top300]; omega
theorem take_at {P : Program} {ops : Array Oper} {Q : Exit → Act → World → Prop} {md : Region.Mode} {S : World → Prop} {i d : Nat} {oi : Oper} {v : Value} {fuel : Nat} {listed : Array Bool} {tmps : Array Value} {ds : List Deferred} {w : World} (hi : ops[i]? = some oi) (hd : oi.dst = some d)
    (hs : Region.noSelect ops = true) (hf : Region.free md ops listed i = true) (hr : (Region.ready md ops listed).contains i = true)
    (hQ : ∀ c a w, Q (.panic c) (a.put oi.dst v) w → Q (.panic c) a w) (hy : YieldsIf P ops S oi v { tmps := tmps, defers := ds }) (hS : S w)
    (h : wpAnyH P md ops Q S fuel (listed.setIfInBounds i true) { tmps := tmps.setIfInBounds d v, defers := ds } w) : wpAnyH P md ops Q S (fuel + 1) listed { tmps := tmps, defers := ds } w :=
  wpAnyH_take hi hs hf hr hQ hy hS (by rw [hd]; exact h)
/-- A result that is not too large. -/
def RetOk (w : World) (z : Int) (e : Ending) (w' : World) : Prop := ∃ v, e = .returned (.tuple #[v, .int .i64 0]) ∧ IsInt w.heap.size w' v z ∧ Up w w'
theorem ok_of {w : World} {z : Int} {e : Ending} {w' : World} (hz : z.natAbs < top300) (h : RetIntE w z e w') : RetOk w z e w' := by
  obtain ⟨v, he, hv, hu⟩ := h
  rw [(bnd_ok hz).2] at he
  rw [(bnd_ok hz).1] at hv
  exact ⟨v, he, hv, hu⟩
theorem tdiv_mul_le (x y : Int) : (x.tdiv y * y).natAbs ≤ x.natAbs := by
  rw [Int.natAbs_mul, Int.natAbs_tdiv]; exact Nat.div_mul_le_self _ _
theorem mulBack (v v' : Value) (x y : Int) (w : World) (hv : IsInt 0 w v (x.tdiv y)) (hv' : IsInt 0 w v' y) (hx : x.natAbs < top300) (hy : y.natAbs < top300) : Calls Try.prog 27 #[v, v'] w (RetOk w (x.tdiv y * y)) :=
  (mulI_any 0 0 v v' _ y w hv hv' (tdiv_top hx) hy).mono fun _ _ h => ok_of (Nat.lt_of_le_of_lt (tdiv_mul_le x y) hx) h
theorem addBack (v v' : Value) (x y : Int) (w : World) (hv : IsInt 0 w v (x.tdiv y * y)) (hv' : IsInt 0 w v' (x.tmod y)) (hx : x.natAbs < top300) : Calls Try.prog 23 #[v, v'] w (RetOk w x) := by
  have h := add_any 0 0 v v' _ _ w hv hv' (Nat.lt_of_le_of_lt (tdiv_mul_le x y) hx) (tmod_top (y := y) hx)
  rw [show x.tdiv y * y + x.tmod y = x by rw [Int.mul_comm]; exact Int.mul_tdiv_add_tmod x y] at h
  exact h.mono fun _ _ h => ok_of hx h
theorem cmpLess (v v' : Value) (x y : Int) (w : World) (hv : IsInt 0 w v ((x.tmod y).natAbs : Int)) (hv' : IsInt 0 w v' (y.natAbs : Int)) (hx : x.natAbs < top300) (hy : y.natAbs < top300) (hy0 : y ≠ 0) : Calls Try.prog 31 #[v, v'] w fun e w' => e = .returned (.int .i64 (-1)) ∧ Up w w' := by
  have h := rcmpI_any 0 0 v v' _ _ w hv hv' (by rw [Int.natAbs_natCast]; exact tmod_top (y := y) hx) (by rw [Int.natAbs_natCast]; exact hy)
  have hl : ((x.tmod y).natAbs : Int) < (y.natAbs : Int) := by
    rw [Int.natAbs_tmod]
    have := Nat.mod_lt x.natAbs (show 0 < y.natAbs by omega)
    omega
  rw [show cmpZ ((x.tmod y).natAbs : Int) (y.natAbs : Int) = -1 by unfold cmpZ; rw [if_pos hl]] at h
  exact h
theorem tmod_sign {x y : Int} (h : x.tmod y ≠ 0) : (x.tmod y).sign = x.sign := by
  rcases Int.lt_trichotomy x 0 with hx | hx | hx
  · have h1 : x.tmod y ≤ 0 := by
      have := Int.neg_tmod (-x) y
      rw [Int.neg_neg] at this
      have h2 := Int.tmod_nonneg y (show 0 ≤ -x by omega)
      omega
    rw [Int.sign_eq_neg_one_of_neg hx, Int.sign_eq_neg_one_of_neg (by omega)]
  · rw [hx] at h; simp at h
  · have h1 := Int.tmod_nonneg y (show 0 ≤ x by omega)
    rw [Int.sign_eq_one_of_pos hx, Int.sign_eq_one_of_pos (by omega)]
theorem divI (v v' : Value) (x y : Int) (w : World) (hv : IsInt 0 w v x) (hv' : IsInt 0 w v' y) (hx : x.natAbs < top300) (hy : y.natAbs < top300) (hy0 : y ≠ 0) : Calls Try.prog 29 #[v, v'] w (RetInt2 w (x.tdiv y) (x.tmod y) 0) :=
  divI_any 0 0 v v' x y w hv hv' hx hy hy0 (fun _ => long_any)

set_option maxRecDepth 100000 in
set_option maxHeartbeats 16000000 in
theorem divisionW (v0 v1 : Value) (w : World) (h0 : RawIn w v0) (h1 : RawIn w v1) : Calls Try.prog 7 #[v0, v1] w fun e w' => e = .returned (.bool true) ∧ Up w w' := by
  have g0 := h0
  have g1 := h1
  obtain ⟨s, A, n, c, l, rfl, hl, hw, Hn, hn, hc⟩ := h0
  obtain ⟨t, C, m, d, k, rfl, hm, hw', Hm, hmm, hd⟩ := h1
  clear hl hw Hn hn hc hm hw' Hm hmm hd
  obtain ⟨w0, hw0⟩ : ∃ w0, w0 = ((w.alloc (.cells #[.bool s, .slice A n c] 37)).alloc (.cells #[.bool t, .slice C m d] 37)) := ⟨_, rfl⟩
  have hb1 : Bk w0 (w.heap.size) 37 #[.bool s, .slice A n c] := by
    have := (Bk.new w 37 #[.bool s, .slice A n c]).alloc (.cells #[.bool t, .slice C m d] 37)
    rw [hw0]; simpa using this
  have hb2 : Bk w0 (w.heap.size + 1) 37 #[.bool t, .slice C m d] := by
    have := Bk.new (w.alloc (.cells #[.bool s, .slice A n c] 37)) 37 #[.bool t, .slice C m d]
    rw [hw0]; simpa using this
  have hup0 : Up w w0 := by rw [hw0]; exact ((Up.refl w).alloc _).alloc _
  have hsz0 : w.heap.size + 2 ≤ w0.heap.size := by rw [hw0]; simp
  have Hw0 := hide hw0
  clear hw0
  have e1a := hb1.cell (i := 0) rfl
  have e1b := hb1.cell (i := 1) rfl
  have e2a := hb2.cell (i := 0) rfl
  have e2b := hb2.cell (i := 1) rfl
  have q0 := g0.up hup0
  have q1 := g1.up hup0
  go_enter Try.func7, Try.ntmps7
  go_wp2_with fail
  rw [← Hw0.out]
  have hupw := hup0
  refine region_inv (fun l a W => ∃ (b0 b1 b2 b3 b4 b5 b6 b7 : Bool) (x1_0 x1_1 x1_2 x1_3 x1_4 x1_5 : Value), l = #[b0, b1, b2, b3, b4, b5, b6, b7] ∧ a = { tmps := #[.agg #[.bool s, .slice A n c], .agg #[.bool t, .slice C m d], .pointer (some ⟨w.heap.size, 0, none⟩), .pointer (some ⟨w.heap.size + 1, 0, none⟩), .bool false, x1_4, x1_5, undef, undef, undef, undef, undef, undef, undef, undef, undef, undef, x1_0, x1_1, x1_2, x1_3, undef, undef, undef, undef, undef, undef, undef, undef, undef, undef, undef, undef, undef, undef, undef, undef, undef, undef, undef, undef, undef, undef, undef, undef, undef, undef, undef, undef, undef, undef, undef, undef, undef, undef, undef, undef, undef, undef, undef, undef, undef, undef, undef, undef, undef, undef, undef, undef, undef, undef, undef, undef, undef, undef, undef, undef, undef, undef, undef, undef, undef, undef, undef, undef, undef, undef, undef, undef, undef, undef, undef, undef, undef, undef, undef, undef, undef, undef, undef, undef, undef, undef, undef, undef, undef, undef, undef, undef, undef, undef, undef], defers := [] } ∧ Up w0 W ∧ (b0 = true → x1_0 = .agg #[.bool s, .slice A n c]) ∧ (b1 = true → Got W x1_1) ∧ (b2 = true → x1_2 = .agg #[.bool t, .slice C m d]) ∧ (b3 = true → Got W x1_3) ∧ (b4 = true → Box (w0.heap.size) W x1_4 b6 x1_1) ∧ (b5 = true → Box (w0.heap.size) W x1_5 b7 x1_3) ∧ (b6 = true → b4 = true ∧ b1 = true) ∧ (b7 = true → b5 = true ∧ b3 = true) ∧ (b4 = true → b5 = true → x1_4 ≠ x1_5)) (by kernel_rfl) (by kernel_rfl) ?hs ?h0 ?hstep ?hQ
  case hs => rintro l a W ⟨b0, b1, b2, b3, b4, b5, b6, b7, x1_0, x1_1, x1_2, x1_3, x1_4, x1_5, rfl, rfl, hup, hF0, hF1, hF2, hF3, hF4, hF5, hF6, hF7, hN4x5⟩; rfl
  case h0 => exact ⟨false, false, false, false, false, false, false, false, undef, undef, undef, undef, undef, undef, rfl, rfl, (Up.refl w0).drew, (fun h => by cases h), (fun h => by cases h), (fun h => by cases h), (fun h => by cases h), (fun h => by cases h), (fun h => by cases h), (fun h => by cases h), (fun h => by cases h), (fun h => by cases h)⟩
  case hstep =>
    rintro l a W ⟨b0, b1, b2, b3, b4, b5, b6, b7, x1_0, x1_1, x1_2, x1_3, x1_4, x1_5, rfl, rfl, hup, hF0, hF1, hF2, hF3, hF4, hF5, hF6, hF7, hN4x5⟩ i hi
    have hlt : i < 8 := ready_lt hi
    have HF0 := hide hF0
    have HF1 := hide hF1
    have HF2 := hide hF2
    have HF3 := hide hF3
    have HF4 := hide hF4
    have HF5 := hide hF5
    have HF6 := hide hF6
    have HF7 := hide hF7
    have HN4x5 := hide hN4x5
    clear hF0 hF1 hF2 hF3 hF4 hF5 hF6 hF7 hN4x5
    have hcase : i = 0 ∨ i = 1 ∨ i = 2 ∨ i = 3 ∨ i = 4 ∨ i = 5 ∨ i = 6 ∨ i = 7 := by omega
    clear hlt
    rcases hcase with rfl | rfl | rfl | rfl | rfl | rfl | rfl | rfl
    · skip
      have k1 : W.cell? ⟨w.heap.size, 0, none⟩ = some (.bool s) := hup.keep e1a
      have k2 : W.cell? ⟨w.heap.size, 1, none⟩ = some (.slice A n c) := hup.keep e1b
      clear hi
      refine wpOp_step rfl (fun K hK => ?_)
      go_simp
      refine hK _ _ ?_
      clear hK K
      exact ⟨true, b1, b2, b3, b4, b5, b6, b7, .agg #[.bool s, .slice A n c], x1_1, x1_2, x1_3, x1_4, x1_5, rfl, rfl, hup, (fun _ => rfl), HF1.out, HF2.out, HF3.out, HF4.out, HF5.out, HF6.out, HF7.out, HN4x5.out⟩
    · skip
      have hb : b0 = true := getB (l := [b0, b1, b2, b3, b4, b5, b6, b7]) (ready_dep hi rfl 0 (by kernel_rfl)) rfl
      have hx := HF0.out hb
      subst hx
      have hn := ready_not hi
      have hst6 : b6 = false := by
        cases e : b6 with
        | false => rfl
        | true => have h5 := (HF6.out e).2; rw [h5] at hn; cases hn
      have Hst6 := hide hst6
      clear hst6
      clear hn
      clear hi
      refine wpOp_step rfl (fun K hK => ?_)
      go_simp
      refine (madeR _ _ (q0.up hup)).mono ?_
      rintro e w1 ⟨v1, z1, rfl, hv1, hz1, hup1⟩
      go_wp2_with fail
      exact ⟨b0, true, b2, b3, b4, b5, b6, b7, .agg #[.bool s, .slice A n c], v1, x1_2, x1_3, x1_4, x1_5, rfl, rfl, hup.trans hup1, (fun _ => rfl), (fun _ => ⟨z1, hv1.mono (Nat.zero_le _), hz1⟩), HF2.out, (fun h => (HF3.out h).up hup1), (fun h => by rw [Hst6.out] at *; obtain ⟨g, s, A, n, c, h1, h2, h3, _⟩ := HF4.out h; exact ⟨g, s, A, n, c, h1, h2, h3.up hup1, fun h => by cases h⟩), (fun h => (HF5.out h).up hup1), (fun h => ⟨(HF6.out h).1, rfl⟩), HF7.out, HN4x5.out⟩
    · skip
      have k1 : W.cell? ⟨w.heap.size + 1, 0, none⟩ = some (.bool t) := hup.keep e2a
      have k2 : W.cell? ⟨w.heap.size + 1, 1, none⟩ = some (.slice C m d) := hup.keep e2b
      clear hi
      refine wpOp_step rfl (fun K hK => ?_)
      go_simp
      refine hK _ _ ?_
      clear hK K
      exact ⟨b0, b1, true, b3, b4, b5, b6, b7, x1_0, x1_1, .agg #[.bool t, .slice C m d], x1_3, x1_4, x1_5, rfl, rfl, hup, HF0.out, HF1.out, (fun _ => rfl), HF3.out, HF4.out, HF5.out, HF6.out, HF7.out, HN4x5.out⟩
    · skip
      have hb : b2 = true := getB (l := [b0, b1, b2, b3, b4, b5, b6, b7]) (ready_dep hi rfl 2 (by kernel_rfl)) rfl
      have hx := HF2.out hb
      subst hx
      have hn := ready_not hi
      have hst7 : b7 = false := by
        cases e : b7 with
        | false => rfl
        | true => have h5 := (HF7.out e).2; rw [h5] at hn; cases hn
      have Hst7 := hide hst7
      clear hst7
      clear hn
      clear hi
      refine wpOp_step rfl (fun K hK => ?_)
      go_simp
      refine (madeR _ _ (q1.up hup)).mono ?_
      rintro e w1 ⟨v1, z1, rfl, hv1, hz1, hup1⟩
      go_wp2_with fail
      exact ⟨b0, b1, b2, true, b4, b5, b6, b7, x1_0, x1_1, .agg #[.bool t, .slice C m d], v1, x1_4, x1_5, rfl, rfl, hup.trans hup1, HF0.out, (fun h => (HF1.out h).up hup1), (fun _ => rfl), (fun _ => ⟨z1, hv1.mono (Nat.zero_le _), hz1⟩), (fun h => (HF4.out h).up hup1), (fun h => by rw [Hst7.out] at *; obtain ⟨g, s, A, n, c, h1, h2, h3, _⟩ := HF5.out h; exact ⟨g, s, A, n, c, h1, h2, h3.up hup1, fun h => by cases h⟩), HF6.out, (fun h => ⟨(HF7.out h).1, rfl⟩), HN4x5.out⟩
    · skip
      have hn := ready_not hi
      have hst6 : b6 = false := by
        cases e : b6 with
        | false => rfl
        | true => have h5 := (HF6.out e).1; rw [h5] at hn; cases hn
      have Hst6 := hide hst6
      clear hst6
      clear hn
      clear hi
      have hsz := hup.size
      have hupA := (Up.refl W).alloc (.cells #[.bool false, .slice none 0 0] 24)
      refine wpOp_step rfl (fun K hK => ?_)
      go_simp
      refine hK _ _ ?_
      clear hK K
      exact ⟨b0, b1, b2, b3, true, b5, b6, b7, x1_0, x1_1, x1_2, x1_3, .pointer (some ⟨W.heap.size, 0, none⟩), x1_5, rfl, rfl, hup.trans hupA, HF0.out, (fun h => (HF1.out h).up hupA), HF2.out, (fun h => (HF3.out h).up hupA), (fun _ => by rw [Hst6.out]; exact Box.new _ W _ hsz), (fun h => (HF5.out h).up hupA), (fun h => ⟨rfl, (HF6.out h).2⟩), HF7.out, (fun _ h => (HF5.out h).ne_new.symm)⟩
    · skip
      have hn := ready_not hi
      have hst7 : b7 = false := by
        cases e : b7 with
        | false => rfl
        | true => have h5 := (HF7.out e).1; rw [h5] at hn; cases hn
      have Hst7 := hide hst7
      clear hst7
      clear hn
      clear hi
      have hsz := hup.size
      have hupA := (Up.refl W).alloc (.cells #[.bool false, .slice none 0 0] 24)
      refine wpOp_step rfl (fun K hK => ?_)
      go_simp
      refine hK _ _ ?_
      clear hK K
      exact ⟨b0, b1, b2, b3, b4, true, b6, b7, x1_0, x1_1, x1_2, x1_3, x1_4, .pointer (some ⟨W.heap.size, 0, none⟩), rfl, rfl, hup.trans hupA, HF0.out, (fun h => (HF1.out h).up hupA), HF2.out, (fun h => (HF3.out h).up hupA), (fun h => (HF4.out h).up hupA), (fun _ => by rw [Hst7.out]; exact Box.new _ W _ hsz), HF6.out, (fun h => ⟨rfl, (HF7.out h).2⟩), (fun h _ => (HF4.out h).ne_new)⟩
    · skip
      have hb2 : b4 = true := getB (l := [b0, b1, b2, b3, b4, b5, b6, b7]) (ready_dep hi rfl 4 (by kernel_rfl)) rfl
      have hb1 : b1 = true := getB (l := [b0, b1, b2, b3, b4, b5, b6, b7]) (ready_dep hi rfl 1 (by kernel_rfl)) rfl
      clear hi
      obtain ⟨s9, A9, n9, c9, hxc⟩ := (HF1.out hb1).agg
      subst hxc
      obtain ⟨g, s8, A8, n8, c8, hxb, hgB, hbk, _⟩ := HF4.out hb2
      subst hxb
      have f1 := hbk.cell (i := 0) rfl
      have f2 := hbk.cell (i := 1) rfl
      have f3 := hbk.frozen 0
      have f4 := hbk.frozen 1
      have Hb1 := hide hb1
      have Hb2 := hide hb2
      have hsz := hup.size
      clear hb1 hb2
      refine wpOp_step rfl (fun K hK => ?_)
      go_simp
      refine hK _ _ ?_
      clear hK K
      exact ⟨b0, b1, b2, b3, b4, b5, true, b7, x1_0, .agg #[.bool s9, .slice A9 n9 c9], x1_2, x1_3, .pointer (some ⟨g, 0, none⟩), x1_5, rfl, rfl, hup.two (g := g) hgB _ _, HF0.out, (fun h => (HF1.out h).boxed hbk _ _), HF2.out, (fun h => (HF3.out h).boxed hbk _ _), (fun _ => hbk.fill hgB), (fun h => (HF5.out h).far ((HN4x5.out Hb2.out h).symm) _ _), (fun _ => ⟨Hb2.out, Hb1.out⟩), HF7.out, HN4x5.out⟩
    · skip
      have hb2 : b5 = true := getB (l := [b0, b1, b2, b3, b4, b5, b6, b7]) (ready_dep hi rfl 5 (by kernel_rfl)) rfl
      have hb1 : b3 = true := getB (l := [b0, b1, b2, b3, b4, b5, b6, b7]) (ready_dep hi rfl 3 (by kernel_rfl)) rfl
      clear hi
      obtain ⟨s9, A9, n9, c9, hxc⟩ := (HF3.out hb1).agg
      subst hxc
      obtain ⟨g, s8, A8, n8, c8, hxb, hgB, hbk, _⟩ := HF5.out hb2
      subst hxb
      have f1 := hbk.cell (i := 0) rfl
      have f2 := hbk.cell (i := 1) rfl
      have f3 := hbk.frozen 0
      have f4 := hbk.frozen 1
      have Hb1 := hide hb1
      have Hb2 := hide hb2
      have hsz := hup.size
      clear hb1 hb2
      refine wpOp_step rfl (fun K hK => ?_)
      go_simp
      refine hK _ _ ?_
      clear hK K
      exact ⟨b0, b1, b2, b3, b4, b5, b6, true, x1_0, x1_1, x1_2, .agg #[.bool s9, .slice A9 n9 c9], x1_4, .pointer (some ⟨g, 0, none⟩), rfl, rfl, hup.two (g := g) hgB _ _, HF0.out, (fun h => (HF1.out h).boxed hbk _ _), HF2.out, (fun h => (HF3.out h).boxed hbk _ _), (fun h => (HF4.out h).far (HN4x5.out h Hb2.out) _ _), (fun _ => hbk.fill hgB), HF6.out, (fun _ => ⟨Hb2.out, Hb1.out⟩), HN4x5.out⟩
  case hQ =>
    rintro l a W1_ ⟨b0, b1, b2, b3, b4, b5, b6, b7, x1_0, x1_1, x1_2, x1_3, x1_4, x1_5, rfl, rfl, hup, hF0, hF1, hF2, hF3, hF4, hF5, hF6, hF7, hN4x5⟩ hall
    have hb0 : b0 = true := getB (l := [b0, b1, b2, b3, b4, b5, b6, b7]) (hall 0 (by decide)) rfl
    have hb1 : b1 = true := getB (l := [b0, b1, b2, b3, b4, b5, b6, b7]) (hall 1 (by decide)) rfl
    have hb2 : b2 = true := getB (l := [b0, b1, b2, b3, b4, b5, b6, b7]) (hall 2 (by decide)) rfl
    have hb3 : b3 = true := getB (l := [b0, b1, b2, b3, b4, b5, b6, b7]) (hall 3 (by decide)) rfl
    have hb4 : b4 = true := getB (l := [b0, b1, b2, b3, b4, b5, b6, b7]) (hall 4 (by decide)) rfl
    have hb5 : b5 = true := getB (l := [b0, b1, b2, b3, b4, b5, b6, b7]) (hall 5 (by decide)) rfl
    have hb6 : b6 = true := getB (l := [b0, b1, b2, b3, b4, b5, b6, b7]) (hall 6 (by decide)) rfl
    have hb7 : b7 = true := getB (l := [b0, b1, b2, b3, b4, b5, b6, b7]) (hall 7 (by decide)) rfl
    subst hb0 hb1 hb2 hb3 hb4 hb5 hb6 hb7
    clear hall
    have m0 := hF0 rfl
    have m1 := hF1 rfl
    have m2 := hF2 rfl
    have m3 := hF3 rfl
    have m4 := hF4 rfl
    have m5 := hF5 rfl
    clear hF0 hF1 hF2 hF3 hF4 hF5 hF6 hF7 hN4x5
    obtain ⟨ga, sa, Aa, na, ca, rfl, hga, hka, hea⟩ := m4
    obtain rfl := hea rfl
    clear hea hga
    obtain ⟨x, hia, hta⟩ := m1
    obtain ⟨gb, sb, Ab, nb, cb, rfl, hgb, hkb, heb⟩ := m5
    obtain rfl := heb rfl
    clear heb hgb
    obtain ⟨y, hib, htb⟩ := m3
    obtain rfl := m0
    obtain rfl := m2
    have hupw := hupw.trans hup
    clear hup
    have hkaa := hka.cell (i := 0) rfl
    have hkab := hka.cell (i := 1) rfl
    have hkal := hka.lt
    have hkba := hkb.cell (i := 0) rfl
    have hkbb := hkb.cell (i := 1) rfl
    have hkbl := hkb.lt
    go_wp2_with fail
    clear hkaa hkab hkal hkba hkbb hkbl
    clear q0 q1 g0 g1 hb1 hb2 e1a e1b e2a e2b Hw0
    refine (awake_any _).mono ?_
    rintro e w2_ ⟨rfl, hup⟩
    have hka := hka.up hup
    have hkb := hkb.up hup
    have hia := hia.up hup
    have hib := hib.up hup
    have hupw := hupw.trans hup
    clear hup
    have hkaa := hka.cell (i := 0) rfl
    have hkab := hka.cell (i := 1) rfl
    have hkal := hka.lt
    have hkba := hkb.cell (i := 0) rfl
    have hkbb := hkb.cell (i := 1) rfl
    have hkbl := hkb.lt
    go_wp2_with fail
    clear hkaa hkab hkal hkba hkbb hkbl
    by_cases hy0 : y = 0
    · skip
      have HY0 := hide hy0
      clear hy0
      refine region_inv (fun l a W => ∃ (b0 b1 b2 b3 b4 b5 b6 b7 b8 b9 b10 b11 b12 b13 : Bool) (x3_0 x3_1 x3_2 x3_3 x3_4 x3_5 x3_6 x3_7 x3_8 x3_9 x3_10 x3_13 : Value), l = #[b0, b1, b2, b3, b4, b5, b6, b7, b8, b9, b10, b11, b12, b13] ∧ a = { tmps := #[.agg #[.bool s, .slice A n c], .agg #[.bool t, .slice C m d], .pointer (some ⟨w.heap.size, 0, none⟩), .pointer (some ⟨w.heap.size + 1, 0, none⟩), .bool false, .pointer (some ⟨ga, 0, none⟩), .pointer (some ⟨gb, 0, none⟩), x3_9, x3_10, x3_13, undef, undef, undef, undef, undef, undef, undef, .agg #[.bool s, .slice A n c], .agg #[.bool sa, .slice Aa na ca], .agg #[.bool t, .slice C m d], .agg #[.bool sb, .slice Ab nb cb], .bool true, .bool false, x3_5, x3_0, x3_1, x3_2, x3_3, x3_4, x3_6, x3_7, x3_8, undef, undef, undef, undef, undef, undef, undef, undef, undef, undef, undef, undef, undef, undef, undef, undef, undef, undef, undef, undef, undef, undef, undef, undef, undef, undef, undef, undef, undef, undef, undef, undef, undef, undef, undef, undef, undef, undef, undef, undef, undef, undef, undef, undef, undef, undef, undef, undef, undef, undef, undef, undef, undef, undef, undef, undef, undef, undef, undef, undef, undef, undef, undef, undef, undef, undef, undef, undef, undef, undef, undef, undef, undef, undef, undef, undef, undef, undef, undef, undef], defers := [] } ∧ Up w2_ W ∧ (b0 = true → IsInt 0 W x3_0 (x)) ∧ (b1 = true → IsInt 0 W x3_1 (x)) ∧ (b2 = true → IsInt 0 W x3_2 (y)) ∧ (b3 = true → IsInt 0 W x3_3 (y)) ∧ (b4 = true → ∃ v0 v1 : Value, x3_4 = .tuple #[v0, v1, .int .i64 8] ∧ IsInt 0 W v0 (0) ∧ IsInt 0 W v1 (0)) ∧ (b5 = true → ∃ v0 v1 : Value, x3_5 = .tuple #[v0, v1, .int .i64 8] ∧ IsInt 0 W v0 (0) ∧ IsInt 0 W v1 (0)) ∧ (b6 = true → IsInt 0 W x3_6 (0)) ∧ (b7 = true → IsInt 0 W x3_7 (0)) ∧ (b8 = true → x3_8 = .int .i64 8) ∧ (b9 = true → Box (w2_.heap.size) W x3_9 b11 x3_6) ∧ (b10 = true → Box (w2_.heap.size) W x3_10 b12 x3_7) ∧ (b11 = true → b9 = true ∧ b6 = true) ∧ (b12 = true → b10 = true ∧ b7 = true) ∧ (b13 = true → x3_13 = .int .i64 8) ∧ (b9 = true → b10 = true → x3_9 ≠ x3_10)) (by kernel_rfl) (by kernel_rfl) ?hs ?h0 ?hstep ?hQ
      case hs => rintro l a W ⟨b0, b1, b2, b3, b4, b5, b6, b7, b8, b9, b10, b11, b12, b13, x3_0, x3_1, x3_2, x3_3, x3_4, x3_5, x3_6, x3_7, x3_8, x3_9, x3_10, x3_13, rfl, rfl, hup, hF0, hF1, hF2, hF3, hF4, hF5, hF6, hF7, hF8, hF9, hF10, hF11, hF12, hF13, hN9x10⟩; rfl
      case h0 => exact ⟨false, false, false, false, false, false, false, false, false, false, false, false, false, false, undef, undef, undef, undef, undef, undef, undef, undef, undef, undef, undef, undef, rfl, rfl, (Up.refl w2_).drew, (fun h => by cases h), (fun h => by cases h), (fun h => by cases h), (fun h => by cases h), (fun h => by cases h), (fun h => by cases h), (fun h => by cases h), (fun h => by cases h), (fun h => by cases h), (fun h => by cases h), (fun h => by cases h), (fun h => by cases h), (fun h => by cases h), (fun h => by cases h), (fun h => by cases h)⟩
      case hstep =>
        rintro l a W ⟨b0, b1, b2, b3, b4, b5, b6, b7, b8, b9, b10, b11, b12, b13, x3_0, x3_1, x3_2, x3_3, x3_4, x3_5, x3_6, x3_7, x3_8, x3_9, x3_10, x3_13, rfl, rfl, hup, hF0, hF1, hF2, hF3, hF4, hF5, hF6, hF7, hF8, hF9, hF10, hF11, hF12, hF13, hN9x10⟩ i hi
        have hlt : i < 14 := ready_lt hi
        have HF0 := hide hF0
        have HF1 := hide hF1
        have HF2 := hide hF2
        have HF3 := hide hF3
        have HF4 := hide hF4
        have HF5 := hide hF5
        have HF6 := hide hF6
        have HF7 := hide hF7
        have HF8 := hide hF8
        have HF9 := hide hF9
        have HF10 := hide hF10
        have HF11 := hide hF11
        have HF12 := hide hF12
        have HF13 := hide hF13
        have HN9x10 := hide hN9x10
        clear hF0 hF1 hF2 hF3 hF4 hF5 hF6 hF7 hF8 hF9 hF10 hF11 hF12 hF13 hN9x10
        have hcase : i = 0 ∨ i = 1 ∨ i = 2 ∨ i = 3 ∨ i = 4 ∨ i = 5 ∨ i = 6 ∨ i = 7 ∨ i = 8 ∨ i = 9 ∨ i = 10 ∨ i = 11 ∨ i = 12 ∨ i = 13 := by omega
        clear hlt
        rcases hcase with rfl | rfl | rfl | rfl | rfl | rfl | rfl | rfl | rfl | rfl | rfl | rfl | rfl | rfl
        · skip
          have k0 := hka.up hup
          have k1 := k0.cell (i := 0) rfl
          have k2 := k0.cell (i := 1) rfl
          clear hi
          refine wpOp_step rfl (fun K hK => ?_)
          go_simp
          refine hK _ _ ?_
          clear hK K
          exact ⟨true, b1, b2, b3, b4, b5, b6, b7, b8, b9, b10, b11, b12, b13, .agg #[.bool sa, .slice Aa na ca], x3_1, x3_2, x3_3, x3_4, x3_5, x3_6, x3_7, x3_8, x3_9, x3_10, x3_13, rfl, rfl, hup, (fun _ => hia.up hup), HF1.out, HF2.out, HF3.out, HF4.out, HF5.out, HF6.out, HF7.out, HF8.out, HF9.out, HF10.out, HF11.out, HF12.out, HF13.out, HN9x10.out⟩
        · skip
          have hb : b0 = true := getB (l := [b0, b1, b2, b3, b4, b5, b6, b7, b8, b9, b10, b11, b12, b13]) (ready_dep hi rfl 0 (by kernel_rfl)) rfl
          have hx := hide (HF0.out hb)
          clear hb
          clear hi
          refine wpOp_step rfl (fun K hK => ?_)
          go_simp
          refine (ownI 0 _ _ _ hx.out (by assumption)).mono ?_
          rintro e w1 ⟨v1, rfl, hv1, hup1⟩
          go_wp2_with fail
          exact ⟨b0, true, b2, b3, b4, b5, b6, b7, b8, b9, b10, b11, b12, b13, x3_0, v1, x3_2, x3_3, x3_4, x3_5, x3_6, x3_7, x3_8, x3_9, x3_10, x3_13, rfl, rfl, hup.trans hup1, (fun h => (HF0.out h).up hup1), (fun _ => hv1.mono (Nat.zero_le _)), (fun h => (HF2.out h).up hup1), (fun h => (HF3.out h).up hup1), (fun h => by obtain ⟨q0, q1, rq, r0, r1⟩ := HF4.out h; exact ⟨q0, q1, rq, r0.up hup1, r1.up hup1⟩), (fun h => by obtain ⟨q0, q1, rq, r0, r1⟩ := HF5.out h; exact ⟨q0, q1, rq, r0.up hup1, r1.up hup1⟩), (fun h => (HF6.out h).up hup1), (fun h => (HF7.out h).up hup1), HF8.out, (fun h => (HF9.out h).up hup1), (fun h => (HF10.out h).up hup1), HF11.out, HF12.out, HF13.out, HN9x10.out⟩
        · skip
          have k0 := hkb.up hup
          have k1 := k0.cell (i := 0) rfl
          have k2 := k0.cell (i := 1) rfl
          clear hi
          refine wpOp_step rfl (fun K hK => ?_)
          go_simp
          refine hK _ _ ?_
          clear hK K
          exact ⟨b0, b1, true, b3, b4, b5, b6, b7, b8, b9, b10, b11, b12, b13, x3_0, x3_1, .agg #[.bool sb, .slice Ab nb cb], x3_3, x3_4, x3_5, x3_6, x3_7, x3_8, x3_9, x3_10, x3_13, rfl, rfl, hup, HF0.out, HF1.out, (fun _ => hib.up hup), HF3.out, HF4.out, HF5.out, HF6.out, HF7.out, HF8.out, HF9.out, HF10.out, HF11.out, HF12.out, HF13.out, HN9x10.out⟩
        · skip
          have hb : b2 = true := getB (l := [b0, b1, b2, b3, b4, b5, b6, b7, b8, b9, b10, b11, b12, b13]) (ready_dep hi rfl 2 (by kernel_rfl)) rfl
          have hx := hide (HF2.out hb)
          clear hb
          clear hi
          refine wpOp_step rfl (fun K hK => ?_)
          go_simp
          refine (ownI 0 _ _ _ hx.out (by assumption)).mono ?_
          rintro e w1 ⟨v1, rfl, hv1, hup1⟩
          go_wp2_with fail
          exact ⟨b0, b1, b2, true, b4, b5, b6, b7, b8, b9, b10, b11, b12, b13, x3_0, x3_1, x3_2, v1, x3_4, x3_5, x3_6, x3_7, x3_8, x3_9, x3_10, x3_13, rfl, rfl, hup.trans hup1, (fun h => (HF0.out h).up hup1), (fun h => (HF1.out h).up hup1), (fun h => (HF2.out h).up hup1), (fun _ => hv1.mono (Nat.zero_le _)), (fun h => by obtain ⟨q0, q1, rq, r0, r1⟩ := HF4.out h; exact ⟨q0, q1, rq, r0.up hup1, r1.up hup1⟩), (fun h => by obtain ⟨q0, q1, rq, r0, r1⟩ := HF5.out h; exact ⟨q0, q1, rq, r0.up hup1, r1.up hup1⟩), (fun h => (HF6.out h).up hup1), (fun h => (HF7.out h).up hup1), HF8.out, (fun h => (HF9.out h).up hup1), (fun h => (HF10.out h).up hup1), HF11.out, HF12.out, HF13.out, HN9x10.out⟩
        · skip
          have hb0q : b1 = true := getB (l := [b0, b1, b2, b3, b4, b5, b6, b7, b8, b9, b10, b11, b12, b13]) (ready_dep hi rfl 1 (by kernel_rfl)) rfl
          have hx0 := hide (HF1.out hb0q)
          clear hb0q
          have hb1q : b3 = true := getB (l := [b0, b1, b2, b3, b4, b5, b6, b7, b8, b9, b10, b11, b12, b13]) (ready_dep hi rfl 3 (by kernel_rfl)) rfl
          have hx1 := hide (HF3.out hb1q)
          clear hb1q
          clear hi
          refine wpOp_step rfl (fun K hK => ?_)
          go_simp
          refine (divI_zero 0 0 _ _ x y _ hx0.out hx1.out hta HY0.out).mono ?_
          rintro e w1 ⟨v0, v1, rfl, hv0, hv1, hup1⟩
          go_wp2_with fail
          exact ⟨b0, b1, b2, b3, true, b5, b6, b7, b8, b9, b10, b11, b12, b13, x3_0, x3_1, x3_2, x3_3, .tuple #[v0, v1, .int .i64 8], x3_5, x3_6, x3_7, x3_8, x3_9, x3_10, x3_13, rfl, rfl, hup.trans hup1, (fun h => (HF0.out h).up hup1), (fun h => (HF1.out h).up hup1), (fun h => (HF2.out h).up hup1), (fun h => (HF3.out h).up hup1), (fun _ => ⟨v0, v1, rfl, hv0.mono (Nat.zero_le _), hv1.mono (Nat.zero_le _)⟩), (fun h => by obtain ⟨q0, q1, rq, r0, r1⟩ := HF5.out h; exact ⟨q0, q1, rq, r0.up hup1, r1.up hup1⟩), (fun h => (HF6.out h).up hup1), (fun h => (HF7.out h).up hup1), HF8.out, (fun h => (HF9.out h).up hup1), (fun h => (HF10.out h).up hup1), HF11.out, HF12.out, HF13.out, HN9x10.out⟩
        · skip
          have hb : b4 = true := getB (l := [b0, b1, b2, b3, b4, b5, b6, b7, b8, b9, b10, b11, b12, b13]) (ready_dep hi rfl 4 (by kernel_rfl)) rfl
          have hx := hide (HF4.out hb)
          clear hb
          clear hi
          refine wpOp_step rfl (fun K hK => ?_)
          go_simp
          refine hK _ _ ?_
          clear hK K
          exact ⟨b0, b1, b2, b3, b4, true, b6, b7, b8, b9, b10, b11, b12, b13, x3_0, x3_1, x3_2, x3_3, x3_4, x3_4, x3_6, x3_7, x3_8, x3_9, x3_10, x3_13, rfl, rfl, hup, HF0.out, HF1.out, HF2.out, HF3.out, HF4.out, (fun _ => hx.out), HF6.out, HF7.out, HF8.out, HF9.out, HF10.out, HF11.out, HF12.out, HF13.out, HN9x10.out⟩
        · skip
          have hb : b5 = true := getB (l := [b0, b1, b2, b3, b4, b5, b6, b7, b8, b9, b10, b11, b12, b13]) (ready_dep hi rfl 5 (by kernel_rfl)) rfl
          have Hb := hide hb
          obtain ⟨v0, v1, hxe, hv0, hv1⟩ := HF5.out hb
          clear hb
          subst hxe
          have hn := ready_not hi
          have hst11 : b11 = false := by
            cases e : b11 with
            | false => rfl
            | true => have h5 := (HF11.out e).2; rw [h5] at hn; cases hn
          have Hst11 := hide hst11
          clear hst11
          clear hn
          clear hi
          refine wpOp_step rfl (fun K hK => ?_)
          go_simp
          refine hK _ _ ?_
          clear hK K
          exact ⟨b0, b1, b2, b3, b4, b5, true, b7, b8, b9, b10, b11, b12, b13, x3_0, x3_1, x3_2, x3_3, x3_4, .tuple #[v0, v1, .int .i64 8], v0, x3_7, x3_8, x3_9, x3_10, x3_13, rfl, rfl, hup, HF0.out, HF1.out, HF2.out, HF3.out, HF4.out, HF5.out, (fun _ => hv0), HF7.out, HF8.out, (fun h => by rw [Hst11.out] at *; obtain ⟨g, s, A, n, c, h1, h2, h3, _⟩ := HF9.out h; exact ⟨g, s, A, n, c, h1, h2, h3.up (Up.refl _), fun h => by cases h⟩), HF10.out, (fun h => ⟨(HF11.out h).1, rfl⟩), HF12.out, HF13.out, HN9x10.out⟩
        · skip
          have hb : b5 = true := getB (l := [b0, b1, b2, b3, b4, b5, b6, b7, b8, b9, b10, b11, b12, b13]) (ready_dep hi rfl 5 (by kernel_rfl)) rfl
          have Hb := hide hb
          obtain ⟨v0, v1, hxe, hv0, hv1⟩ := HF5.out hb
          clear hb
          subst hxe
          have hn := ready_not hi
          have hst12 : b12 = false := by
            cases e : b12 with
            | false => rfl
            | true => have h5 := (HF12.out e).2; rw [h5] at hn; cases hn
          have Hst12 := hide hst12
          clear hst12
          clear hn
          clear hi
          refine wpOp_step rfl (fun K hK => ?_)
          go_simp
          refine hK _ _ ?_
          clear hK K
          exact ⟨b0, b1, b2, b3, b4, b5, b6, true, b8, b9, b10, b11, b12, b13, x3_0, x3_1, x3_2, x3_3, x3_4, .tuple #[v0, v1, .int .i64 8], x3_6, v1, x3_8, x3_9, x3_10, x3_13, rfl, rfl, hup, HF0.out, HF1.out, HF2.out, HF3.out, HF4.out, HF5.out, HF6.out, (fun _ => hv1), HF8.out, HF9.out, (fun h => by rw [Hst12.out] at *; obtain ⟨g, s, A, n, c, h1, h2, h3, _⟩ := HF10.out h; exact ⟨g, s, A, n, c, h1, h2, h3.up (Up.refl _), fun h => by cases h⟩), HF11.out, (fun h => ⟨(HF12.out h).1, rfl⟩), HF13.out, HN9x10.out⟩
        · skip
          have hb : b5 = true := getB (l := [b0, b1, b2, b3, b4, b5, b6, b7, b8, b9, b10, b11, b12, b13]) (ready_dep hi rfl 5 (by kernel_rfl)) rfl
          have Hb := hide hb
          obtain ⟨v0, v1, hxe, hv0, hv1⟩ := HF5.out hb
          clear hb
          subst hxe
          clear hi
          refine wpOp_step rfl (fun K hK => ?_)
          go_simp
          refine hK _ _ ?_
          clear hK K
          exact ⟨b0, b1, b2, b3, b4, b5, b6, b7, true, b9, b10, b11, b12, b13, x3_0, x3_1, x3_2, x3_3, x3_4, .tuple #[v0, v1, .int .i64 8], x3_6, x3_7, .int .i64 8, x3_9, x3_10, x3_13, rfl, rfl, hup, HF0.out, HF1.out, HF2.out, HF3.out, HF4.out, HF5.out, HF6.out, HF7.out, (fun _ => rfl), HF9.out, HF10.out, HF11.out, HF12.out, HF13.out, HN9x10.out⟩
        · skip
          have hn := ready_not hi
          have hst11 : b11 = false := by
            cases e : b11 with
            | false => rfl
            | true => have h5 := (HF11.out e).1; rw [h5] at hn; cases hn
          have Hst11 := hide hst11
          clear hst11
          clear hn
          clear hi
          have hsz := hup.size
          have hupA := (Up.refl W).alloc (.cells #[.bool false, .slice none 0 0] 24)
          refine wpOp_step rfl (fun K hK => ?_)
          go_simp
          refine hK _ _ ?_
          clear hK K
          exact ⟨b0, b1, b2, b3, b4, b5, b6, b7, b8, true, b10, b11, b12, b13, x3_0, x3_1, x3_2, x3_3, x3_4, x3_5, x3_6, x3_7, x3_8, .pointer (some ⟨W.heap.size, 0, none⟩), x3_10, x3_13, rfl, rfl, hup.trans hupA, (fun h => (HF0.out h).up hupA), (fun h => (HF1.out h).up hupA), (fun h => (HF2.out h).up hupA), (fun h => (HF3.out h).up hupA), (fun h => by obtain ⟨q0, q1, rq, r0, r1⟩ := HF4.out h; exact ⟨q0, q1, rq, r0.up hupA, r1.up hupA⟩), (fun h => by obtain ⟨q0, q1, rq, r0, r1⟩ := HF5.out h; exact ⟨q0, q1, rq, r0.up hupA, r1.up hupA⟩), (fun h => (HF6.out h).up hupA), (fun h => (HF7.out h).up hupA), HF8.out, (fun _ => by rw [Hst11.out]; exact Box.new _ W _ hsz), (fun h => (HF10.out h).up hupA), (fun h => ⟨rfl, (HF11.out h).2⟩), HF12.out, HF13.out, (fun _ h => (HF10.out h).ne_new.symm)⟩
        · skip
          have hn := ready_not hi
          have hst12 : b12 = false := by
            cases e : b12 with
            | false => rfl
            | true => have h5 := (HF12.out e).1; rw [h5] at hn; cases hn
          have Hst12 := hide hst12
          clear hst12
          clear hn
          clear hi
          have hsz := hup.size
          have hupA := (Up.refl W).alloc (.cells #[.bool false, .slice none 0 0] 24)
          refine wpOp_step rfl (fun K hK => ?_)
          go_simp
          refine hK _ _ ?_
          clear hK K
          exact ⟨b0, b1, b2, b3, b4, b5, b6, b7, b8, b9, true, b11, b12, b13, x3_0, x3_1, x3_2, x3_3, x3_4, x3_5, x3_6, x3_7, x3_8, x3_9, .pointer (some ⟨W.heap.size, 0, none⟩), x3_13, rfl, rfl, hup.trans hupA, (fun h => (HF0.out h).up hupA), (fun h => (HF1.out h).up hupA), (fun h => (HF2.out h).up hupA), (fun h => (HF3.out h).up hupA), (fun h => by obtain ⟨q0, q1, rq, r0, r1⟩ := HF4.out h; exact ⟨q0, q1, rq, r0.up hupA, r1.up hupA⟩), (fun h => by obtain ⟨q0, q1, rq, r0, r1⟩ := HF5.out h; exact ⟨q0, q1, rq, r0.up hupA, r1.up hupA⟩), (fun h => (HF6.out h).up hupA), (fun h => (HF7.out h).up hupA), HF8.out, (fun h => (HF9.out h).up hupA), (fun _ => by rw [Hst12.out]; exact Box.new _ W _ hsz), HF11.out, (fun h => ⟨rfl, (HF12.out h).2⟩), HF13.out, (fun h _ => (HF9.out h).ne_new)⟩
        · skip
          have hb2 : b9 = true := getB (l := [b0, b1, b2, b3, b4, b5, b6, b7, b8, b9, b10, b11, b12, b13]) (ready_dep hi rfl 9 (by kernel_rfl)) rfl
          have hb1 : b6 = true := getB (l := [b0, b1, b2, b3, b4, b5, b6, b7, b8, b9, b10, b11, b12, b13]) (ready_dep hi rfl 6 (by kernel_rfl)) rfl
          clear hi
          obtain ⟨s9, A9, n9, c9, hxc⟩ := (HF6.out hb1).agg
          subst hxc
          obtain ⟨g, s8, A8, n8, c8, hxb, hgB, hbk, _⟩ := HF9.out hb2
          subst hxb
          have f1 := hbk.cell (i := 0) rfl
          have f2 := hbk.cell (i := 1) rfl
          have f3 := hbk.frozen 0
          have f4 := hbk.frozen 1
          have Hb1 := hide hb1
          have Hb2 := hide hb2
          have hsz := hup.size
          clear hb1 hb2
          refine wpOp_step rfl (fun K hK => ?_)
          go_simp
          refine hK _ _ ?_
          clear hK K
          exact ⟨b0, b1, b2, b3, b4, b5, b6, b7, b8, b9, b10, true, b12, b13, x3_0, x3_1, x3_2, x3_3, x3_4, x3_5, .agg #[.bool s9, .slice A9 n9 c9], x3_7, x3_8, .pointer (some ⟨g, 0, none⟩), x3_10, x3_13, rfl, rfl, hup.two (g := g) hgB _ _, (fun h => (HF0.out h).boxed hbk _ _), (fun h => (HF1.out h).boxed hbk _ _), (fun h => (HF2.out h).boxed hbk _ _), (fun h => (HF3.out h).boxed hbk _ _), (fun h => by obtain ⟨q0, q1, rq, r0, r1⟩ := HF4.out h; exact ⟨q0, q1, rq, r0.boxed hbk _ _, r1.boxed hbk _ _⟩), (fun h => by obtain ⟨q0, q1, rq, r0, r1⟩ := HF5.out h; exact ⟨q0, q1, rq, r0.boxed hbk _ _, r1.boxed hbk _ _⟩), (fun h => (HF6.out h).boxed hbk _ _), (fun h => (HF7.out h).boxed hbk _ _), HF8.out, (fun _ => hbk.fill hgB), (fun h => (HF10.out h).far ((HN9x10.out Hb2.out h).symm) _ _), (fun _ => ⟨Hb2.out, Hb1.out⟩), HF12.out, HF13.out, HN9x10.out⟩
        · skip
          have hb2 : b10 = true := getB (l := [b0, b1, b2, b3, b4, b5, b6, b7, b8, b9, b10, b11, b12, b13]) (ready_dep hi rfl 10 (by kernel_rfl)) rfl
          have hb1 : b7 = true := getB (l := [b0, b1, b2, b3, b4, b5, b6, b7, b8, b9, b10, b11, b12, b13]) (ready_dep hi rfl 7 (by kernel_rfl)) rfl
          clear hi
          obtain ⟨s9, A9, n9, c9, hxc⟩ := (HF7.out hb1).agg
          subst hxc
          obtain ⟨g, s8, A8, n8, c8, hxb, hgB, hbk, _⟩ := HF10.out hb2
          subst hxb
          have f1 := hbk.cell (i := 0) rfl
          have f2 := hbk.cell (i := 1) rfl
          have f3 := hbk.frozen 0
          have f4 := hbk.frozen 1
          have Hb1 := hide hb1
          have Hb2 := hide hb2
          have hsz := hup.size
          clear hb1 hb2
          refine wpOp_step rfl (fun K hK => ?_)
          go_simp
          refine hK _ _ ?_
          clear hK K
          exact ⟨b0, b1, b2, b3, b4, b5, b6, b7, b8, b9, b10, b11, true, b13, x3_0, x3_1, x3_2, x3_3, x3_4, x3_5, x3_6, .agg #[.bool s9, .slice A9 n9 c9], x3_8, x3_9, .pointer (some ⟨g, 0, none⟩), x3_13, rfl, rfl, hup.two (g := g) hgB _ _, (fun h => (HF0.out h).boxed hbk _ _), (fun h => (HF1.out h).boxed hbk _ _), (fun h => (HF2.out h).boxed hbk _ _), (fun h => (HF3.out h).boxed hbk _ _), (fun h => by obtain ⟨q0, q1, rq, r0, r1⟩ := HF4.out h; exact ⟨q0, q1, rq, r0.boxed hbk _ _, r1.boxed hbk _ _⟩), (fun h => by obtain ⟨q0, q1, rq, r0, r1⟩ := HF5.out h; exact ⟨q0, q1, rq, r0.boxed hbk _ _, r1.boxed hbk _ _⟩), (fun h => (HF6.out h).boxed hbk _ _), (fun h => (HF7.out h).boxed hbk _ _), HF8.out, (fun h => (HF9.out h).far (HN9x10.out h Hb2.out) _ _), (fun _ => hbk.fill hgB), HF11.out, (fun _ => ⟨Hb2.out, Hb1.out⟩), HF13.out, HN9x10.out⟩
        · skip
          have hb : b8 = true := getB (l := [b0, b1, b2, b3, b4, b5, b6, b7, b8, b9, b10, b11, b12, b13]) (ready_dep hi rfl 8 (by kernel_rfl)) rfl
          have hx := hide (HF8.out hb)
          clear hb
          clear hi
          refine wpOp_step rfl (fun K hK => ?_)
          go_simp
          refine hK _ _ ?_
          clear hK K
          exact ⟨b0, b1, b2, b3, b4, b5, b6, b7, b8, b9, b10, b11, b12, true, x3_0, x3_1, x3_2, x3_3, x3_4, x3_5, x3_6, x3_7, x3_8, x3_9, x3_10, x3_8, rfl, rfl, hup, HF0.out, HF1.out, HF2.out, HF3.out, HF4.out, HF5.out, HF6.out, HF7.out, HF8.out, HF9.out, HF10.out, HF11.out, HF12.out, (fun _ => hx.out), HN9x10.out⟩
      case hQ =>
        rintro l a W3_ ⟨b0, b1, b2, b3, b4, b5, b6, b7, b8, b9, b10, b11, b12, b13, x3_0, x3_1, x3_2, x3_3, x3_4, x3_5, x3_6, x3_7, x3_8, x3_9, x3_10, x3_13, rfl, rfl, hup, hF0, hF1, hF2, hF3, hF4, hF5, hF6, hF7, hF8, hF9, hF10, hF11, hF12, hF13, hN9x10⟩ hall
        have hb0 : b0 = true := getB (l := [b0, b1, b2, b3, b4, b5, b6, b7, b8, b9, b10, b11, b12, b13]) (hall 0 (by decide)) rfl
        have hb1 : b1 = true := getB (l := [b0, b1, b2, b3, b4, b5, b6, b7, b8, b9, b10, b11, b12, b13]) (hall 1 (by decide)) rfl
        have hb2 : b2 = true := getB (l := [b0, b1, b2, b3, b4, b5, b6, b7, b8, b9, b10, b11, b12, b13]) (hall 2 (by decide)) rfl
        have hb3 : b3 = true := getB (l := [b0, b1, b2, b3, b4, b5, b6, b7, b8, b9, b10, b11, b12, b13]) (hall 3 (by decide)) rfl
        have hb4 : b4 = true := getB (l := [b0, b1, b2, b3, b4, b5, b6, b7, b8, b9, b10, b11, b12, b13]) (hall 4 (by decide)) rfl
        have hb5 : b5 = true := getB (l := [b0, b1, b2, b3, b4, b5, b6, b7, b8, b9, b10, b11, b12, b13]) (hall 5 (by decide)) rfl
        have hb6 : b6 = true := getB (l := [b0, b1, b2, b3, b4, b5, b6, b7, b8, b9, b10, b11, b12, b13]) (hall 6 (by decide)) rfl
        have hb7 : b7 = true := getB (l := [b0, b1, b2, b3, b4, b5, b6, b7, b8, b9, b10, b11, b12, b13]) (hall 7 (by decide)) rfl
        have hb8 : b8 = true := getB (l := [b0, b1, b2, b3, b4, b5, b6, b7, b8, b9, b10, b11, b12, b13]) (hall 8 (by decide)) rfl
        have hb9 : b9 = true := getB (l := [b0, b1, b2, b3, b4, b5, b6, b7, b8, b9, b10, b11, b12, b13]) (hall 9 (by decide)) rfl
        have hb10 : b10 = true := getB (l := [b0, b1, b2, b3, b4, b5, b6, b7, b8, b9, b10, b11, b12, b13]) (hall 10 (by decide)) rfl
        have hb11 : b11 = true := getB (l := [b0, b1, b2, b3, b4, b5, b6, b7, b8, b9, b10, b11, b12, b13]) (hall 11 (by decide)) rfl
        have hb12 : b12 = true := getB (l := [b0, b1, b2, b3, b4, b5, b6, b7, b8, b9, b10, b11, b12, b13]) (hall 12 (by decide)) rfl
        have hb13 : b13 = true := getB (l := [b0, b1, b2, b3, b4, b5, b6, b7, b8, b9, b10, b11, b12, b13]) (hall 13 (by decide)) rfl
        subst hb0 hb1 hb2 hb3 hb4 hb5 hb6 hb7 hb8 hb9 hb10 hb11 hb12 hb13
        clear hall
        have m0 := hF0 rfl
        have m1 := hF1 rfl
        have m2 := hF2 rfl
        have m3 := hF3 rfl
        have m4 := hF4 rfl
        have m5 := hF5 rfl
        have m6 := hF6 rfl
        have m7 := hF7 rfl
        have m8 := hF8 rfl
        have m9 := hF9 rfl
        have m10 := hF10 rfl
        have m13 := hF13 rfl
        clear hF0 hF1 hF2 hF3 hF4 hF5 hF6 hF7 hF8 hF9 hF10 hF11 hF12 hF13 hN9x10
        obtain ⟨gq, sq, Aq, nq, cq, rfl, hgq, hkq, heq⟩ := m9
        obtain rfl := heq rfl
        clear heq hgq
        have hiq := m6
        obtain ⟨gr, sr, Ar, nr, cr, rfl, hgr, hkr, her⟩ := m10
        obtain rfl := her rfl
        clear her hgr
        have hir := m7
        obtain rfl := m8
        obtain rfl := m13
        clear m0 m1 m2 m3 m4 m5 m6 m7
        have hka := hka.up hup
        have hkb := hkb.up hup
        have hia := hia.up hup
        have hib := hib.up hup
        have hupw := hupw.trans hup
        clear hup
        have hkaa := hka.cell (i := 0) rfl
        have hkab := hka.cell (i := 1) rfl
        have hkal := hka.lt
        have hkba := hkb.cell (i := 0) rfl
        have hkbb := hkb.cell (i := 1) rfl
        have hkbl := hkb.lt
        have hkqa := hkq.cell (i := 0) rfl
        have hkqb := hkq.cell (i := 1) rfl
        have hkql := hkq.lt
        have hkra := hkr.cell (i := 0) rfl
        have hkrb := hkr.cell (i := 1) rfl
        have hkrl := hkr.lt
        go_wp2_with fail
        clear hkaa hkab hkal hkba hkbb hkbl hkqa hkqb hkql hkra hkrb hkrl
        have hys : (y.sign == 0) = true := by rw [HY0.out]; rfl
        refine (rsignI 0 _ y _ hib htb).mono ?_
        rintro e w4_ ⟨rfl, hup⟩
        have hka := hka.up hup
        have hkb := hkb.up hup
        have hkq := hkq.up hup
        have hkr := hkr.up hup
        have hia := hia.up hup
        have hib := hib.up hup
        have hiq := hiq.up hup
        have hir := hir.up hup
        have hupw := hupw.trans hup
        clear hup
        have hkaa := hka.cell (i := 0) rfl
        have hkab := hka.cell (i := 1) rfl
        have hkal := hka.lt
        have hkba := hkb.cell (i := 0) rfl
        have hkbb := hkb.cell (i := 1) rfl
        have hkbl := hkb.lt
        have hkqa := hkq.cell (i := 0) rfl
        have hkqb := hkq.cell (i := 1) rfl
        have hkql := hkq.lt
        have hkra := hkr.cell (i := 0) rfl
        have hkrb := hkr.cell (i := 1) rfl
        have hkrl := hkr.lt
        go_wp2_with fail
        clear hkaa hkab hkal hkba hkbb hkbl hkqa hkqb hkql hkra hkrb hkrl
        refine (equalI 0 0 _ _ 0 _ hiq (IsInt.zero 0 _) zero_top).mono ?_
        rintro e w5_ ⟨rfl, hup⟩
        have hka := hka.up hup
        have hkb := hkb.up hup
        have hkq := hkq.up hup
        have hkr := hkr.up hup
        have hia := hia.up hup
        have hib := hib.up hup
        have hiq := hiq.up hup
        have hir := hir.up hup
        have hupw := hupw.trans hup
        clear hup
        have hkaa := hka.cell (i := 0) rfl
        have hkab := hka.cell (i := 1) rfl
        have hkal := hka.lt
        have hkba := hkb.cell (i := 0) rfl
        have hkbb := hkb.cell (i := 1) rfl
        have hkbl := hkb.lt
        have hkqa := hkq.cell (i := 0) rfl
        have hkqb := hkq.cell (i := 1) rfl
        have hkql := hkq.lt
        have hkra := hkr.cell (i := 0) rfl
        have hkrb := hkr.cell (i := 1) rfl
        have hkrl := hkr.lt
        go_wp2_with fail
        clear hkaa hkab hkal hkba hkbb hkbl hkqa hkqb hkql hkra hkrb hkrl
        refine (equalI 0 0 _ _ 0 _ hir (IsInt.zero 0 _) zero_top).mono ?_
        rintro e w6_ ⟨rfl, hup⟩
        have hka := hka.up hup
        have hkb := hkb.up hup
        have hkq := hkq.up hup
        have hkr := hkr.up hup
        have hia := hia.up hup
        have hib := hib.up hup
        have hiq := hiq.up hup
        have hir := hir.up hup
        have hupw := hupw.trans hup
        clear hup
        have hkaa := hka.cell (i := 0) rfl
        have hkab := hka.cell (i := 1) rfl
        have hkal := hka.lt
        have hkba := hkb.cell (i := 0) rfl
        have hkbb := hkb.cell (i := 1) rfl
        have hkbl := hkb.lt
        have hkqa := hkq.cell (i := 0) rfl
        have hkqb := hkq.cell (i := 1) rfl
        have hkql := hkq.lt
        have hkra := hkr.cell (i := 0) rfl
        have hkrb := hkr.cell (i := 1) rfl
        have hkrl := hkr.lt
        go_wp2_with fail
        clear hkaa hkab hkal hkba hkbb hkbl hkqa hkqb hkql hkra hkrb hkrl
        go_ret
        exact ⟨rfl, hupw⟩
    · skip
      have HY0 := hide hy0
      have htq := tdiv_top (y := y) hta
      have htr := tmod_top (y := y) hta
      have hys : (y.sign == 0) = false := by rw [beq_eq_false_iff_ne]; intro h; exact hy0 (Int.sign_eq_zero_iff_zero.1 h)
      clear hy0
      refine region_inv (fun l a W => ∃ (b0 b1 b2 b3 b4 b5 b6 b7 b8 b9 b10 b11 b12 b13 : Bool) (x3_0 x3_1 x3_2 x3_3 x3_4 x3_5 x3_6 x3_7 x3_8 x3_9 x3_10 x3_13 : Value), l = #[b0, b1, b2, b3, b4, b5, b6, b7, b8, b9, b10, b11, b12, b13] ∧ a = { tmps := #[.agg #[.bool s, .slice A n c], .agg #[.bool t, .slice C m d], .pointer (some ⟨w.heap.size, 0, none⟩), .pointer (some ⟨w.heap.size + 1, 0, none⟩), .bool false, .pointer (some ⟨ga, 0, none⟩), .pointer (some ⟨gb, 0, none⟩), x3_9, x3_10, x3_13, undef, undef, undef, undef, undef, undef, undef, .agg #[.bool s, .slice A n c], .agg #[.bool sa, .slice Aa na ca], .agg #[.bool t, .slice C m d], .agg #[.bool sb, .slice Ab nb cb], .bool true, .bool false, x3_5, x3_0, x3_1, x3_2, x3_3, x3_4, x3_6, x3_7, x3_8, undef, undef, undef, undef, undef, undef, undef, undef, undef, undef, undef, undef, undef, undef, undef, undef, undef, undef, undef, undef, undef, undef, undef, undef, undef, undef, undef, undef, undef, undef, undef, undef, undef, undef, undef, undef, undef, undef, undef, undef, undef, undef, undef, undef, undef, undef, undef, undef, undef, undef, undef, undef, undef, undef, undef, undef, undef, undef, undef, undef, undef, undef, undef, undef, undef, undef, undef, undef, undef, undef, undef, undef, undef, undef, undef, undef, undef, undef, undef, undef], defers := [] } ∧ Up w2_ W ∧ (b0 = true → IsInt 0 W x3_0 (x)) ∧ (b1 = true → IsInt 0 W x3_1 (x)) ∧ (b2 = true → IsInt 0 W x3_2 (y)) ∧ (b3 = true → IsInt 0 W x3_3 (y)) ∧ (b4 = true → ∃ v0 v1 : Value, x3_4 = .tuple #[v0, v1, .int .i64 0] ∧ IsInt 0 W v0 (x.tdiv y) ∧ IsInt 0 W v1 (x.tmod y)) ∧ (b5 = true → ∃ v0 v1 : Value, x3_5 = .tuple #[v0, v1, .int .i64 0] ∧ IsInt 0 W v0 (x.tdiv y) ∧ IsInt 0 W v1 (x.tmod y)) ∧ (b6 = true → IsInt 0 W x3_6 (x.tdiv y)) ∧ (b7 = true → IsInt 0 W x3_7 (x.tmod y)) ∧ (b8 = true → x3_8 = .int .i64 0) ∧ (b9 = true → Box (w2_.heap.size) W x3_9 b11 x3_6) ∧ (b10 = true → Box (w2_.heap.size) W x3_10 b12 x3_7) ∧ (b11 = true → b9 = true ∧ b6 = true) ∧ (b12 = true → b10 = true ∧ b7 = true) ∧ (b13 = true → x3_13 = .int .i64 0) ∧ (b9 = true → b10 = true → x3_9 ≠ x3_10)) (by kernel_rfl) (by kernel_rfl) ?hs ?h0 ?hstep ?hQ
      case hs => rintro l a W ⟨b0, b1, b2, b3, b4, b5, b6, b7, b8, b9, b10, b11, b12, b13, x3_0, x3_1, x3_2, x3_3, x3_4, x3_5, x3_6, x3_7, x3_8, x3_9, x3_10, x3_13, rfl, rfl, hup, hF0, hF1, hF2, hF3, hF4, hF5, hF6, hF7, hF8, hF9, hF10, hF11, hF12, hF13, hN9x10⟩; rfl
      case h0 => exact ⟨false, false, false, false, false, false, false, false, false, false, false, false, false, false, undef, undef, undef, undef, undef, undef, undef, undef, undef, undef, undef, undef, rfl, rfl, (Up.refl w2_).drew, (fun h => by cases h), (fun h => by cases h), (fun h => by cases h), (fun h => by cases h), (fun h => by cases h), (fun h => by cases h), (fun h => by cases h), (fun h => by cases h), (fun h => by cases h), (fun h => by cases h), (fun h => by cases h), (fun h => by cases h), (fun h => by cases h), (fun h => by cases h), (fun h => by cases h)⟩
      case hstep =>
        rintro l a W ⟨b0, b1, b2, b3, b4, b5, b6, b7, b8, b9, b10, b11, b12, b13, x3_0, x3_1, x3_2, x3_3, x3_4, x3_5, x3_6, x3_7, x3_8, x3_9, x3_10, x3_13, rfl, rfl, hup, hF0, hF1, hF2, hF3, hF4, hF5, hF6, hF7, hF8, hF9, hF10, hF11, hF12, hF13, hN9x10⟩ i hi
        have hlt : i < 14 := ready_lt hi
        have HF0 := hide hF0
        have HF1 := hide hF1
        have HF2 := hide hF2
        have HF3 := hide hF3
        have HF4 := hide hF4
        have HF5 := hide hF5
        have HF6 := hide hF6
        have HF7 := hide hF7
        have HF8 := hide hF8
        have HF9 := hide hF9
        have HF10 := hide hF10
        have HF11 := hide hF11
        have HF12 := hide hF12
        have HF13 := hide hF13
        have HN9x10 := hide hN9x10
        clear hF0 hF1 hF2 hF3 hF4 hF5 hF6 hF7 hF8 hF9 hF10 hF11 hF12 hF13 hN9x10
        have hcase : i = 0 ∨ i = 1 ∨ i = 2 ∨ i = 3 ∨ i = 4 ∨ i = 5 ∨ i = 6 ∨ i = 7 ∨ i = 8 ∨ i = 9 ∨ i = 10 ∨ i = 11 ∨ i = 12 ∨ i = 13 := by omega
        clear hlt
        rcases hcase with rfl | rfl | rfl | rfl | rfl | rfl | rfl | rfl | rfl | rfl | rfl | rfl | rfl | rfl
        · skip
          have k0 := hka.up hup
          have k1 := k0.cell (i := 0) rfl
          have k2 := k0.cell (i := 1) rfl
          clear hi
          refine wpOp_step rfl (fun K hK => ?_)
          go_simp
          refine hK _ _ ?_
          clear hK K
          exact ⟨true, b1, b2, b3, b4, b5, b6, b7, b8, b9, b10, b11, b12, b13, .agg #[.bool sa, .slice Aa na ca], x3_1, x3_2, x3_3, x3_4, x3_5, x3_6, x3_7, x3_8, x3_9, x3_10, x3_13, rfl, rfl, hup, (fun _ => hia.up hup), HF1.out, HF2.out, HF3.out, HF4.out, HF5.out, HF6.out, HF7.out, HF8.out, HF9.out, HF10.out, HF11.out, HF12.out, HF13.out, HN9x10.out⟩
        · skip
          have hb : b0 = true := getB (l := [b0, b1, b2, b3, b4, b5, b6, b7, b8, b9, b10, b11, b12, b13]) (ready_dep hi rfl 0 (by kernel_rfl)) rfl
          have hx := hide (HF0.out hb)
          clear hb
          clear hi
          refine wpOp_step rfl (fun K hK => ?_)
          go_simp
          refine (ownI 0 _ _ _ hx.out (by assumption)).mono ?_
          rintro e w1 ⟨v1, rfl, hv1, hup1⟩
          go_wp2_with fail
          exact ⟨b0, true, b2, b3, b4, b5, b6, b7, b8, b9, b10, b11, b12, b13, x3_0, v1, x3_2, x3_3, x3_4, x3_5, x3_6, x3_7, x3_8, x3_9, x3_10, x3_13, rfl, rfl, hup.trans hup1, (fun h => (HF0.out h).up hup1), (fun _ => hv1.mono (Nat.zero_le _)), (fun h => (HF2.out h).up hup1), (fun h => (HF3.out h).up hup1), (fun h => by obtain ⟨q0, q1, rq, r0, r1⟩ := HF4.out h; exact ⟨q0, q1, rq, r0.up hup1, r1.up hup1⟩), (fun h => by obtain ⟨q0, q1, rq, r0, r1⟩ := HF5.out h; exact ⟨q0, q1, rq, r0.up hup1, r1.up hup1⟩), (fun h => (HF6.out h).up hup1), (fun h => (HF7.out h).up hup1), HF8.out, (fun h => (HF9.out h).up hup1), (fun h => (HF10.out h).up hup1), HF11.out, HF12.out, HF13.out, HN9x10.out⟩
        · skip
          have k0 := hkb.up hup
          have k1 := k0.cell (i := 0) rfl
          have k2 := k0.cell (i := 1) rfl
          clear hi
          refine wpOp_step rfl (fun K hK => ?_)
          go_simp
          refine hK _ _ ?_
          clear hK K
          exact ⟨b0, b1, true, b3, b4, b5, b6, b7, b8, b9, b10, b11, b12, b13, x3_0, x3_1, .agg #[.bool sb, .slice Ab nb cb], x3_3, x3_4, x3_5, x3_6, x3_7, x3_8, x3_9, x3_10, x3_13, rfl, rfl, hup, HF0.out, HF1.out, (fun _ => hib.up hup), HF3.out, HF4.out, HF5.out, HF6.out, HF7.out, HF8.out, HF9.out, HF10.out, HF11.out, HF12.out, HF13.out, HN9x10.out⟩
        · skip
          have hb : b2 = true := getB (l := [b0, b1, b2, b3, b4, b5, b6, b7, b8, b9, b10, b11, b12, b13]) (ready_dep hi rfl 2 (by kernel_rfl)) rfl
          have hx := hide (HF2.out hb)
          clear hb
          clear hi
          refine wpOp_step rfl (fun K hK => ?_)
          go_simp
          refine (ownI 0 _ _ _ hx.out (by assumption)).mono ?_
          rintro e w1 ⟨v1, rfl, hv1, hup1⟩
          go_wp2_with fail
          exact ⟨b0, b1, b2, true, b4, b5, b6, b7, b8, b9, b10, b11, b12, b13, x3_0, x3_1, x3_2, v1, x3_4, x3_5, x3_6, x3_7, x3_8, x3_9, x3_10, x3_13, rfl, rfl, hup.trans hup1, (fun h => (HF0.out h).up hup1), (fun h => (HF1.out h).up hup1), (fun h => (HF2.out h).up hup1), (fun _ => hv1.mono (Nat.zero_le _)), (fun h => by obtain ⟨q0, q1, rq, r0, r1⟩ := HF4.out h; exact ⟨q0, q1, rq, r0.up hup1, r1.up hup1⟩), (fun h => by obtain ⟨q0, q1, rq, r0, r1⟩ := HF5.out h; exact ⟨q0, q1, rq, r0.up hup1, r1.up hup1⟩), (fun h => (HF6.out h).up hup1), (fun h => (HF7.out h).up hup1), HF8.out, (fun h => (HF9.out h).up hup1), (fun h => (HF10.out h).up hup1), HF11.out, HF12.out, HF13.out, HN9x10.out⟩
        · skip
          have hb0q : b1 = true := getB (l := [b0, b1, b2, b3, b4, b5, b6, b7, b8, b9, b10, b11, b12, b13]) (ready_dep hi rfl 1 (by kernel_rfl)) rfl
          have hx0 := hide (HF1.out hb0q)
          clear hb0q
          have hb1q : b3 = true := getB (l := [b0, b1, b2, b3, b4, b5, b6, b7, b8, b9, b10, b11, b12, b13]) (ready_dep hi rfl 3 (by kernel_rfl)) rfl
          have hx1 := hide (HF3.out hb1q)
          clear hb1q
          clear hi
          refine wpOp_step rfl (fun K hK => ?_)
          go_simp
          refine (divI _ _ x y _ hx0.out hx1.out hta htb HY0.out).mono ?_
          rintro e w1 ⟨v0, v1, rfl, hv0, hv1, hup1⟩
          go_wp2_with fail
          exact ⟨b0, b1, b2, b3, true, b5, b6, b7, b8, b9, b10, b11, b12, b13, x3_0, x3_1, x3_2, x3_3, .tuple #[v0, v1, .int .i64 0], x3_5, x3_6, x3_7, x3_8, x3_9, x3_10, x3_13, rfl, rfl, hup.trans hup1, (fun h => (HF0.out h).up hup1), (fun h => (HF1.out h).up hup1), (fun h => (HF2.out h).up hup1), (fun h => (HF3.out h).up hup1), (fun _ => ⟨v0, v1, rfl, hv0.mono (Nat.zero_le _), hv1.mono (Nat.zero_le _)⟩), (fun h => by obtain ⟨q0, q1, rq, r0, r1⟩ := HF5.out h; exact ⟨q0, q1, rq, r0.up hup1, r1.up hup1⟩), (fun h => (HF6.out h).up hup1), (fun h => (HF7.out h).up hup1), HF8.out, (fun h => (HF9.out h).up hup1), (fun h => (HF10.out h).up hup1), HF11.out, HF12.out, HF13.out, HN9x10.out⟩
        · skip
          have hb : b4 = true := getB (l := [b0, b1, b2, b3, b4, b5, b6, b7, b8, b9, b10, b11, b12, b13]) (ready_dep hi rfl 4 (by kernel_rfl)) rfl
          have hx := hide (HF4.out hb)
          clear hb
          clear hi
          refine wpOp_step rfl (fun K hK => ?_)
          go_simp
          refine hK _ _ ?_
          clear hK K
          exact ⟨b0, b1, b2, b3, b4, true, b6, b7, b8, b9, b10, b11, b12, b13, x3_0, x3_1, x3_2, x3_3, x3_4, x3_4, x3_6, x3_7, x3_8, x3_9, x3_10, x3_13, rfl, rfl, hup, HF0.out, HF1.out, HF2.out, HF3.out, HF4.out, (fun _ => hx.out), HF6.out, HF7.out, HF8.out, HF9.out, HF10.out, HF11.out, HF12.out, HF13.out, HN9x10.out⟩
        · skip
          have hb : b5 = true := getB (l := [b0, b1, b2, b3, b4, b5, b6, b7, b8, b9, b10, b11, b12, b13]) (ready_dep hi rfl 5 (by kernel_rfl)) rfl
          have Hb := hide hb
          obtain ⟨v0, v1, hxe, hv0, hv1⟩ := HF5.out hb
          clear hb
          subst hxe
          have hn := ready_not hi
          have hst11 : b11 = false := by
            cases e : b11 with
            | false => rfl
            | true => have h5 := (HF11.out e).2; rw [h5] at hn; cases hn
          have Hst11 := hide hst11
          clear hst11
          clear hn
          clear hi
          refine wpOp_step rfl (fun K hK => ?_)
          go_simp
          refine hK _ _ ?_
          clear hK K
          exact ⟨b0, b1, b2, b3, b4, b5, true, b7, b8, b9, b10, b11, b12, b13, x3_0, x3_1, x3_2, x3_3, x3_4, .tuple #[v0, v1, .int .i64 0], v0, x3_7, x3_8, x3_9, x3_10, x3_13, rfl, rfl, hup, HF0.out, HF1.out, HF2.out, HF3.out, HF4.out, HF5.out, (fun _ => hv0), HF7.out, HF8.out, (fun h => by rw [Hst11.out] at *; obtain ⟨g, s, A, n, c, h1, h2, h3, _⟩ := HF9.out h; exact ⟨g, s, A, n, c, h1, h2, h3.up (Up.refl _), fun h => by cases h⟩), HF10.out, (fun h => ⟨(HF11.out h).1, rfl⟩), HF12.out, HF13.out, HN9x10.out⟩
        · skip
          have hb : b5 = true := getB (l := [b0, b1, b2, b3, b4, b5, b6, b7, b8, b9, b10, b11, b12, b13]) (ready_dep hi rfl 5 (by kernel_rfl)) rfl
          have Hb := hide hb
          obtain ⟨v0, v1, hxe, hv0, hv1⟩ := HF5.out hb
          clear hb
          subst hxe
          have hn := ready_not hi
          have hst12 : b12 = false := by
            cases e : b12 with
            | false => rfl
            | true => have h5 := (HF12.out e).2; rw [h5] at hn; cases hn
          have Hst12 := hide hst12
          clear hst12
          clear hn
          clear hi
          refine wpOp_step rfl (fun K hK => ?_)
          go_simp
          refine hK _ _ ?_
          clear hK K
          exact ⟨b0, b1, b2, b3, b4, b5, b6, true, b8, b9, b10, b11, b12, b13, x3_0, x3_1, x3_2, x3_3, x3_4, .tuple #[v0, v1, .int .i64 0], x3_6, v1, x3_8, x3_9, x3_10, x3_13, rfl, rfl, hup, HF0.out, HF1.out, HF2.out, HF3.out, HF4.out, HF5.out, HF6.out, (fun _ => hv1), HF8.out, HF9.out, (fun h => by rw [Hst12.out] at *; obtain ⟨g, s, A, n, c, h1, h2, h3, _⟩ := HF10.out h; exact ⟨g, s, A, n, c, h1, h2, h3.up (Up.refl _), fun h => by cases h⟩), HF11.out, (fun h => ⟨(HF12.out h).1, rfl⟩), HF13.out, HN9x10.out⟩
        · skip
          have hb : b5 = true := getB (l := [b0, b1, b2, b3, b4, b5, b6, b7, b8, b9, b10, b11, b12, b13]) (ready_dep hi rfl 5 (by kernel_rfl)) rfl
          have Hb := hide hb
          obtain ⟨v0, v1, hxe, hv0, hv1⟩ := HF5.out hb
          clear hb
          subst hxe
          clear hi
          refine wpOp_step rfl (fun K hK => ?_)
          go_simp
          refine hK _ _ ?_
          clear hK K
          exact ⟨b0, b1, b2, b3, b4, b5, b6, b7, true, b9, b10, b11, b12, b13, x3_0, x3_1, x3_2, x3_3, x3_4, .tuple #[v0, v1, .int .i64 0], x3_6, x3_7, .int .i64 0, x3_9, x3_10, x3_13, rfl, rfl, hup, HF0.out, HF1.out, HF2.out, HF3.out, HF4.out, HF5.out, HF6.out, HF7.out, (fun _ => rfl), HF9.out, HF10.out, HF11.out, HF12.out, HF13.out, HN9x10.out⟩
        · skip
          have hn := ready_not hi
          have hst11 : b11 = false := by
            cases e : b11 with
            | false => rfl
            | true => have h5 := (HF11.out e).1; rw [h5] at hn; cases hn
          have Hst11 := hide hst11
          clear hst11
          clear hn
          clear hi
          have hsz := hup.size
          have hupA := (Up.refl W).alloc (.cells #[.bool false, .slice none 0 0] 24)
          refine wpOp_step rfl (fun K hK => ?_)
          go_simp
          refine hK _ _ ?_
          clear hK K
          exact ⟨b0, b1, b2, b3, b4, b5, b6, b7, b8, true, b10, b11, b12, b13, x3_0, x3_1, x3_2, x3_3, x3_4, x3_5, x3_6, x3_7, x3_8, .pointer (some ⟨W.heap.size, 0, none⟩), x3_10, x3_13, rfl, rfl, hup.trans hupA, (fun h => (HF0.out h).up hupA), (fun h => (HF1.out h).up hupA), (fun h => (HF2.out h).up hupA), (fun h => (HF3.out h).up hupA), (fun h => by obtain ⟨q0, q1, rq, r0, r1⟩ := HF4.out h; exact ⟨q0, q1, rq, r0.up hupA, r1.up hupA⟩), (fun h => by obtain ⟨q0, q1, rq, r0, r1⟩ := HF5.out h; exact ⟨q0, q1, rq, r0.up hupA, r1.up hupA⟩), (fun h => (HF6.out h).up hupA), (fun h => (HF7.out h).up hupA), HF8.out, (fun _ => by rw [Hst11.out]; exact Box.new _ W _ hsz), (fun h => (HF10.out h).up hupA), (fun h => ⟨rfl, (HF11.out h).2⟩), HF12.out, HF13.out, (fun _ h => (HF10.out h).ne_new.symm)⟩
        · skip
          have hn := ready_not hi
          have hst12 : b12 = false := by
            cases e : b12 with
            | false => rfl
            | true => have h5 := (HF12.out e).1; rw [h5] at hn; cases hn
          have Hst12 := hide hst12
          clear hst12
          clear hn
          clear hi
          have hsz := hup.size
          have hupA := (Up.refl W).alloc (.cells #[.bool false, .slice none 0 0] 24)
          refine wpOp_step rfl (fun K hK => ?_)
          go_simp
          refine hK _ _ ?_
          clear hK K
          exact ⟨b0, b1, b2, b3, b4, b5, b6, b7, b8, b9, true, b11, b12, b13, x3_0, x3_1, x3_2, x3_3, x3_4, x3_5, x3_6, x3_7, x3_8, x3_9, .pointer (some ⟨W.heap.size, 0, none⟩), x3_13, rfl, rfl, hup.trans hupA, (fun h => (HF0.out h).up hupA), (fun h => (HF1.out h).up hupA), (fun h => (HF2.out h).up hupA), (fun h => (HF3.out h).up hupA), (fun h => by obtain ⟨q0, q1, rq, r0, r1⟩ := HF4.out h; exact ⟨q0, q1, rq, r0.up hupA, r1.up hupA⟩), (fun h => by obtain ⟨q0, q1, rq, r0, r1⟩ := HF5.out h; exact ⟨q0, q1, rq, r0.up hupA, r1.up hupA⟩), (fun h => (HF6.out h).up hupA), (fun h => (HF7.out h).up hupA), HF8.out, (fun h => (HF9.out h).up hupA), (fun _ => by rw [Hst12.out]; exact Box.new _ W _ hsz), HF11.out, (fun h => ⟨rfl, (HF12.out h).2⟩), HF13.out, (fun h _ => (HF9.out h).ne_new)⟩
        · skip
          have hb2 : b9 = true := getB (l := [b0, b1, b2, b3, b4, b5, b6, b7, b8, b9, b10, b11, b12, b13]) (ready_dep hi rfl 9 (by kernel_rfl)) rfl
          have hb1 : b6 = true := getB (l := [b0, b1, b2, b3, b4, b5, b6, b7, b8, b9, b10, b11, b12, b13]) (ready_dep hi rfl 6 (by kernel_rfl)) rfl
          clear hi
          obtain ⟨s9, A9, n9, c9, hxc⟩ := (HF6.out hb1).agg
          subst hxc
          obtain ⟨g, s8, A8, n8, c8, hxb, hgB, hbk, _⟩ := HF9.out hb2
          subst hxb
          have f1 := hbk.cell (i := 0) rfl
          have f2 := hbk.cell (i := 1) rfl
          have f3 := hbk.frozen 0
          have f4 := hbk.frozen 1
          have Hb1 := hide hb1
          have Hb2 := hide hb2
          have hsz := hup.size
          clear hb1 hb2
          refine wpOp_step rfl (fun K hK => ?_)
          go_simp
          refine hK _ _ ?_
          clear hK K
          exact ⟨b0, b1, b2, b3, b4, b5, b6, b7, b8, b9, b10, true, b12, b13, x3_0, x3_1, x3_2, x3_3, x3_4, x3_5, .agg #[.bool s9, .slice A9 n9 c9], x3_7, x3_8, .pointer (some ⟨g, 0, none⟩), x3_10, x3_13, rfl, rfl, hup.two (g := g) hgB _ _, (fun h => (HF0.out h).boxed hbk _ _), (fun h => (HF1.out h).boxed hbk _ _), (fun h => (HF2.out h).boxed hbk _ _), (fun h => (HF3.out h).boxed hbk _ _), (fun h => by obtain ⟨q0, q1, rq, r0, r1⟩ := HF4.out h; exact ⟨q0, q1, rq, r0.boxed hbk _ _, r1.boxed hbk _ _⟩), (fun h => by obtain ⟨q0, q1, rq, r0, r1⟩ := HF5.out h; exact ⟨q0, q1, rq, r0.boxed hbk _ _, r1.boxed hbk _ _⟩), (fun h => (HF6.out h).boxed hbk _ _), (fun h => (HF7.out h).boxed hbk _ _), HF8.out, (fun _ => hbk.fill hgB), (fun h => (HF10.out h).far ((HN9x10.out Hb2.out h).symm) _ _), (fun _ => ⟨Hb2.out, Hb1.out⟩), HF12.out, HF13.out, HN9x10.out⟩
        · skip
          have hb2 : b10 = true := getB (l := [b0, b1, b2, b3, b4, b5, b6, b7, b8, b9, b10, b11, b12, b13]) (ready_dep hi rfl 10 (by kernel_rfl)) rfl
          have hb1 : b7 = true := getB (l := [b0, b1, b2, b3, b4, b5, b6, b7, b8, b9, b10, b11, b12, b13]) (ready_dep hi rfl 7 (by kernel_rfl)) rfl
          clear hi
          obtain ⟨s9, A9, n9, c9, hxc⟩ := (HF7.out hb1).agg
          subst hxc
          obtain ⟨g, s8, A8, n8, c8, hxb, hgB, hbk, _⟩ := HF10.out hb2
          subst hxb
          have f1 := hbk.cell (i := 0) rfl
          have f2 := hbk.cell (i := 1) rfl
          have f3 := hbk.frozen 0
          have f4 := hbk.frozen 1
          have Hb1 := hide hb1
          have Hb2 := hide hb2
          have hsz := hup.size
          clear hb1 hb2
          refine wpOp_step rfl (fun K hK => ?_)
          go_simp
          refine hK _ _ ?_
          clear hK K
          exact ⟨b0, b1, b2, b3, b4, b5, b6, b7, b8, b9, b10, b11, true, b13, x3_0, x3_1, x3_2, x3_3, x3_4, x3_5, x3_6, .agg #[.bool s9, .slice A9 n9 c9], x3_8, x3_9, .pointer (some ⟨g, 0, none⟩), x3_13, rfl, rfl, hup.two (g := g) hgB _ _, (fun h => (HF0.out h).boxed hbk _ _), (fun h => (HF1.out h).boxed hbk _ _), (fun h => (HF2.out h).boxed hbk _ _), (fun h => (HF3.out h).boxed hbk _ _), (fun h => by obtain ⟨q0, q1, rq, r0, r1⟩ := HF4.out h; exact ⟨q0, q1, rq, r0.boxed hbk _ _, r1.boxed hbk _ _⟩), (fun h => by obtain ⟨q0, q1, rq, r0, r1⟩ := HF5.out h; exact ⟨q0, q1, rq, r0.boxed hbk _ _, r1.boxed hbk _ _⟩), (fun h => (HF6.out h).boxed hbk _ _), (fun h => (HF7.out h).boxed hbk _ _), HF8.out, (fun h => (HF9.out h).far (HN9x10.out h Hb2.out) _ _), (fun _ => hbk.fill hgB), HF11.out, (fun _ => ⟨Hb2.out, Hb1.out⟩), HF13.out, HN9x10.out⟩
        · skip
          have hb : b8 = true := getB (l := [b0, b1, b2, b3, b4, b5, b6, b7, b8, b9, b10, b11, b12, b13]) (ready_dep hi rfl 8 (by kernel_rfl)) rfl
          have hx := hide (HF8.out hb)
          clear hb
          clear hi
          refine wpOp_step rfl (fun K hK => ?_)
          go_simp
          refine hK _ _ ?_
          clear hK K
          exact ⟨b0, b1, b2, b3, b4, b5, b6, b7, b8, b9, b10, b11, b12, true, x3_0, x3_1, x3_2, x3_3, x3_4, x3_5, x3_6, x3_7, x3_8, x3_9, x3_10, x3_8, rfl, rfl, hup, HF0.out, HF1.out, HF2.out, HF3.out, HF4.out, HF5.out, HF6.out, HF7.out, HF8.out, HF9.out, HF10.out, HF11.out, HF12.out, (fun _ => hx.out), HN9x10.out⟩
      case hQ =>
        rintro l a W3_ ⟨b0, b1, b2, b3, b4, b5, b6, b7, b8, b9, b10, b11, b12, b13, x3_0, x3_1, x3_2, x3_3, x3_4, x3_5, x3_6, x3_7, x3_8, x3_9, x3_10, x3_13, rfl, rfl, hup, hF0, hF1, hF2, hF3, hF4, hF5, hF6, hF7, hF8, hF9, hF10, hF11, hF12, hF13, hN9x10⟩ hall
        have hb0 : b0 = true := getB (l := [b0, b1, b2, b3, b4, b5, b6, b7, b8, b9, b10, b11, b12, b13]) (hall 0 (by decide)) rfl
        have hb1 : b1 = true := getB (l := [b0, b1, b2, b3, b4, b5, b6, b7, b8, b9, b10, b11, b12, b13]) (hall 1 (by decide)) rfl
        have hb2 : b2 = true := getB (l := [b0, b1, b2, b3, b4, b5, b6, b7, b8, b9, b10, b11, b12, b13]) (hall 2 (by decide)) rfl
        have hb3 : b3 = true := getB (l := [b0, b1, b2, b3, b4, b5, b6, b7, b8, b9, b10, b11, b12, b13]) (hall 3 (by decide)) rfl
        have hb4 : b4 = true := getB (l := [b0, b1, b2, b3, b4, b5, b6, b7, b8, b9, b10, b11, b12, b13]) (hall 4 (by decide)) rfl
        have hb5 : b5 = true := getB (l := [b0, b1, b2, b3, b4, b5, b6, b7, b8, b9, b10, b11, b12, b13]) (hall 5 (by decide)) rfl
        have hb6 : b6 = true := getB (l := [b0, b1, b2, b3, b4, b5, b6, b7, b8, b9, b10, b11, b12, b13]) (hall 6 (by decide)) rfl
        have hb7 : b7 = true := getB (l := [b0, b1, b2, b3, b4, b5, b6, b7, b8, b9, b10, b11, b12, b13]) (hall 7 (by decide)) rfl
        have hb8 : b8 = true := getB (l := [b0, b1, b2, b3, b4, b5, b6, b7, b8, b9, b10, b11, b12, b13]) (hall 8 (by decide)) rfl
        have hb9 : b9 = true := getB (l := [b0, b1, b2, b3, b4, b5, b6, b7, b8, b9, b10, b11, b12, b13]) (hall 9 (by decide)) rfl
        have hb10 : b10 = true := getB (l := [b0, b1, b2, b3, b4, b5, b6, b7, b8, b9, b10, b11, b12, b13]) (hall 10 (by decide)) rfl
        have hb11 : b11 = true := getB (l := [b0, b1, b2, b3, b4, b5, b6, b7, b8, b9, b10, b11, b12, b13]) (hall 11 (by decide)) rfl
        have hb12 : b12 = true := getB (l := [b0, b1, b2, b3, b4, b5, b6, b7, b8, b9, b10, b11, b12, b13]) (hall 12 (by decide)) rfl
        have hb13 : b13 = true := getB (l := [b0, b1, b2, b3, b4, b5, b6, b7, b8, b9, b10, b11, b12, b13]) (hall 13 (by decide)) rfl
        subst hb0 hb1 hb2 hb3 hb4 hb5 hb6 hb7 hb8 hb9 hb10 hb11 hb12 hb13
        clear hall
        have m0 := hF0 rfl
        have m1 := hF1 rfl
        have m2 := hF2 rfl
        have m3 := hF3 rfl
        have m4 := hF4 rfl
        have m5 := hF5 rfl
        have m6 := hF6 rfl
        have m7 := hF7 rfl
        have m8 := hF8 rfl
        have m9 := hF9 rfl
        have m10 := hF10 rfl
        have m13 := hF13 rfl
        clear hF0 hF1 hF2 hF3 hF4 hF5 hF6 hF7 hF8 hF9 hF10 hF11 hF12 hF13 hN9x10
        obtain ⟨gq, sq, Aq, nq, cq, rfl, hgq, hkq, heq⟩ := m9
        obtain rfl := heq rfl
        clear heq hgq
        have hiq := m6
        obtain ⟨gr, sr, Ar, nr, cr, rfl, hgr, hkr, her⟩ := m10
        obtain rfl := her rfl
        clear her hgr
        have hir := m7
        obtain rfl := m8
        obtain rfl := m13
        clear m0 m1 m2 m3 m4 m5 m6 m7
        have hka := hka.up hup
        have hkb := hkb.up hup
        have hia := hia.up hup
        have hib := hib.up hup
        have hupw := hupw.trans hup
        clear hup
        have hkaa := hka.cell (i := 0) rfl
        have hkab := hka.cell (i := 1) rfl
        have hkal := hka.lt
        have hkba := hkb.cell (i := 0) rfl
        have hkbb := hkb.cell (i := 1) rfl
        have hkbl := hkb.lt
        have hkqa := hkq.cell (i := 0) rfl
        have hkqb := hkq.cell (i := 1) rfl
        have hkql := hkq.lt
        have hkra := hkr.cell (i := 0) rfl
        have hkrb := hkr.cell (i := 1) rfl
        have hkrl := hkr.lt
        go_wp2_with fail
        clear hkaa hkab hkal hkba hkbb hkbl hkqa hkqb hkql hkra hkrb hkrl
        refine (rsignI 0 _ y _ hib htb).mono ?_
        rintro e w4_ ⟨rfl, hup⟩
        have hka := hka.up hup
        have hkb := hkb.up hup
        have hkq := hkq.up hup
        have hkr := hkr.up hup
        have hia := hia.up hup
        have hib := hib.up hup
        have hiq := hiq.up hup
        have hir := hir.up hup
        have hupw := hupw.trans hup
        clear hup
        have hkaa := hka.cell (i := 0) rfl
        have hkab := hka.cell (i := 1) rfl
        have hkal := hka.lt
        have hkba := hkb.cell (i := 0) rfl
        have hkbb := hkb.cell (i := 1) rfl
        have hkbl := hkb.lt
        have hkqa := hkq.cell (i := 0) rfl
        have hkqb := hkq.cell (i := 1) rfl
        have hkql := hkq.lt
        have hkra := hkr.cell (i := 0) rfl
        have hkrb := hkr.cell (i := 1) rfl
        have hkrl := hkr.lt
        go_wp2_with fail
        clear hkaa hkab hkal hkba hkbb hkbl hkqa hkqb hkql hkra hkrb hkrl
        refine (rdivI_any 0 0 _ _ x y _ hia hib hta htb HY0.out).mono ?_
        rintro e w5_ ⟨v5_0, v5_1, rfl, hv5_0, hv5_1, hup⟩
        have hka := hka.up hup
        have hkb := hkb.up hup
        have hkq := hkq.up hup
        have hkr := hkr.up hup
        have hia := hia.up hup
        have hib := hib.up hup
        have hiq := hiq.up hup
        have hir := hir.up hup
        have hupw := hupw.trans hup
        clear hup
        obtain ⟨sq2, Aq2, nq2, cq2, rfl⟩ := hv5_0.agg
        obtain ⟨sr2, Ar2, nr2, cr2, rfl⟩ := hv5_1.agg
        have hkaa := hka.cell (i := 0) rfl
        have hkab := hka.cell (i := 1) rfl
        have hkal := hka.lt
        have hkba := hkb.cell (i := 0) rfl
        have hkbb := hkb.cell (i := 1) rfl
        have hkbl := hkb.lt
        have hkqa := hkq.cell (i := 0) rfl
        have hkqb := hkq.cell (i := 1) rfl
        have hkql := hkq.lt
        have hkra := hkr.cell (i := 0) rfl
        have hkrb := hkr.cell (i := 1) rfl
        have hkrl := hkr.lt
        go_wp2_with fail
        clear hkaa hkab hkal hkba hkbb hkbl hkqa hkqb hkql hkra hkrb hkrl
        obtain ⟨u5_, hu5_⟩ : ∃ x, x = ((w5_.alloc (.cells #[.bool sq2, .slice Aq2 nq2 cq2] 24)).alloc (.cells #[.bool sr2, .slice Ar2 nr2 cr2] 24)) := ⟨_, rfl⟩
        have hkq2 : Bk u5_ w5_.heap.size 24 #[.bool sq2, .slice Aq2 nq2 cq2] := by rw [hu5_]; exact (two_new w5_ _ _ _ _).1
        have hkr2 : Bk u5_ (w5_.heap.size + 1) 24 #[.bool sr2, .slice Ar2 nr2 cr2] := by rw [hu5_]; exact (two_new w5_ _ _ _ _).2
        have hup : Up w5_ u5_ := by rw [hu5_]; exact ((Up.refl w5_).alloc _).alloc _
        rw [← hu5_]
        clear hu5_
        have hka := hka.up hup
        have hkb := hkb.up hup
        have hkq := hkq.up hup
        have hkr := hkr.up hup
        have hia := hia.up hup
        have hib := hib.up hup
        have hiq := hiq.up hup
        have hir := hir.up hup
        have hupw := hupw.trans hup
        have hiq2 := (hv5_0.mono (Nat.zero_le _)).up hup
        have hir2 := (hv5_1.mono (Nat.zero_le _)).up hup
        clear hup hv5_0 hv5_1
        clear hys
        refine region_inv (fun l a W => ∃ (b0 b1 b2 b3 b4 b5 b6 b7 b8 b9 : Bool) (x6_0 x6_1 x6_2 x6_3 x6_4 x6_5 x6_6 x6_7 x6_9 : Value), l = #[b0, b1, b2, b3, b4, b5, b6, b7, b8, b9] ∧ a = { tmps := #[.agg #[.bool s, .slice A n c], .agg #[.bool t, .slice C m d], .pointer (some ⟨w.heap.size, 0, none⟩), .pointer (some ⟨w.heap.size + 1, 0, none⟩), .bool false, .pointer (some ⟨ga, 0, none⟩), .pointer (some ⟨gb, 0, none⟩), .pointer (some ⟨gq, 0, none⟩), .pointer (some ⟨gr, 0, none⟩), .int .i64 0, .pointer (some ⟨w5_.heap.size, 0, none⟩), .pointer (some ⟨w5_.heap.size + 1, 0, none⟩), .int .i64 0, x6_7, x6_9, undef, undef, .agg #[.bool s, .slice A n c], .agg #[.bool sa, .slice Aa na ca], .agg #[.bool t, .slice C m d], .agg #[.bool sb, .slice Ab nb cb], .bool true, .bool false, x3_5, x3_0, x3_1, x3_2, x3_3, x3_4, .agg #[.bool sq, .slice Aq nq cq], .agg #[.bool sr, .slice Ar nr cr], .int .i64 0, .agg #[.bool sb, .slice Ab nb cb], .int .i64 y.sign, .bool false, undef, undef, undef, undef, undef, undef, undef, undef, undef, undef, undef, undef, .tuple #[.agg #[.bool sq2, .slice Aq2 nq2 cq2], .agg #[.bool sr2, .slice Ar2 nr2 cr2], .int .i64 0], .agg #[.bool sa, .slice Aa na ca], .agg #[.bool sb, .slice Ab nb cb], .tuple #[.agg #[.bool sq2, .slice Aq2 nq2 cq2], .agg #[.bool sr2, .slice Ar2 nr2 cr2], .int .i64 0], .agg #[.bool sq2, .slice Aq2 nq2 cq2], .agg #[.bool sr2, .slice Ar2 nr2 cr2], .int .i64 0, x6_4, x6_0, x6_1, x6_2, x6_3, x6_5, x6_6, undef, undef, undef, undef, undef, undef, undef, undef, undef, undef, undef, undef, undef, undef, undef, undef, undef, undef, undef, undef, undef, undef, undef, undef, undef, undef, undef, undef, undef, undef, undef, undef, undef, undef, undef, undef, undef, undef, undef, undef, undef, undef, undef, undef, undef, undef, undef, undef, undef, undef, undef], defers := [] } ∧ Up u5_ W ∧ (b0 = true → IsInt 0 W x6_0 (x.tdiv y)) ∧ (b1 = true → IsInt 0 W x6_1 (y)) ∧ (b2 = true → IsInt 0 W x6_2 (y)) ∧ (b3 = true → ∃ v0 : Value, x6_3 = .tuple #[v0, .int .i64 0] ∧ IsInt 0 W v0 (x.tdiv y * y)) ∧ (b4 = true → ∃ v0 : Value, x6_4 = .tuple #[v0, .int .i64 0] ∧ IsInt 0 W v0 (x.tdiv y * y)) ∧ (b5 = true → IsInt 0 W x6_5 (x.tdiv y * y)) ∧ (b6 = true → x6_6 = .int .i64 0) ∧ (b7 = true → Box (u5_.heap.size) W x6_7 b8 x6_5) ∧ (b8 = true → b7 = true ∧ b5 = true) ∧ (b9 = true → x6_9 = .int .i64 0)) (by kernel_rfl) (by kernel_rfl) ?hs ?h0 ?hstep ?hQ
        case hs => rintro l a W ⟨b0, b1, b2, b3, b4, b5, b6, b7, b8, b9, x6_0, x6_1, x6_2, x6_3, x6_4, x6_5, x6_6, x6_7, x6_9, rfl, rfl, hup, hF0, hF1, hF2, hF3, hF4, hF5, hF6, hF7, hF8, hF9⟩; rfl
        case h0 => exact ⟨false, false, false, false, false, false, false, false, false, false, undef, undef, undef, undef, undef, undef, undef, undef, undef, rfl, rfl, (Up.refl u5_).drew, (fun h => by cases h), (fun h => by cases h), (fun h => by cases h), (fun h => by cases h), (fun h => by cases h), (fun h => by cases h), (fun h => by cases h), (fun h => by cases h), (fun h => by cases h), (fun h => by cases h)⟩
        case hstep =>
          rintro l a W ⟨b0, b1, b2, b3, b4, b5, b6, b7, b8, b9, x6_0, x6_1, x6_2, x6_3, x6_4, x6_5, x6_6, x6_7, x6_9, rfl, rfl, hup, hF0, hF1, hF2, hF3, hF4, hF5, hF6, hF7, hF8, hF9⟩ i hi
          have hlt : i < 10 := ready_lt hi
          have HF0 := hide hF0
          have HF1 := hide hF1
          have HF2 := hide hF2
          have HF3 := hide hF3
          have HF4 := hide hF4
          have HF5 := hide hF5
          have HF6 := hide hF6
          have HF7 := hide hF7
          have HF8 := hide hF8
          have HF9 := hide hF9
          clear hF0 hF1 hF2 hF3 hF4 hF5 hF6 hF7 hF8 hF9
          have hcase : i = 0 ∨ i = 1 ∨ i = 2 ∨ i = 3 ∨ i = 4 ∨ i = 5 ∨ i = 6 ∨ i = 7 ∨ i = 8 ∨ i = 9 := by omega
          clear hlt
          rcases hcase with rfl | rfl | rfl | rfl | rfl | rfl | rfl | rfl | rfl | rfl
          · skip
            have k0 := hkq.up hup
            have k1 := k0.cell (i := 0) rfl
            have k2 := k0.cell (i := 1) rfl
            clear hi
            refine wpOp_step rfl (fun K hK => ?_)
            go_simp
            refine hK _ _ ?_
            clear hK K
            exact ⟨true, b1, b2, b3, b4, b5, b6, b7, b8, b9, .agg #[.bool sq, .slice Aq nq cq], x6_1, x6_2, x6_3, x6_4, x6_5, x6_6, x6_7, x6_9, rfl, rfl, hup, (fun _ => hiq.up hup), HF1.out, HF2.out, HF3.out, HF4.out, HF5.out, HF6.out, HF7.out, HF8.out, HF9.out⟩
          · skip
            have k0 := hkb.up hup
            have k1 := k0.cell (i := 0) rfl
            have k2 := k0.cell (i := 1) rfl
            clear hi
            refine wpOp_step rfl (fun K hK => ?_)
            go_simp
            refine hK _ _ ?_
            clear hK K
            exact ⟨b0, true, b2, b3, b4, b5, b6, b7, b8, b9, x6_0, .agg #[.bool sb, .slice Ab nb cb], x6_2, x6_3, x6_4, x6_5, x6_6, x6_7, x6_9, rfl, rfl, hup, HF0.out, (fun _ => hib.up hup), HF2.out, HF3.out, HF4.out, HF5.out, HF6.out, HF7.out, HF8.out, HF9.out⟩
          · skip
            have hb : b1 = true := getB (l := [b0, b1, b2, b3, b4, b5, b6, b7, b8, b9]) (ready_dep hi rfl 1 (by kernel_rfl)) rfl
            have hx := hide (HF1.out hb)
            clear hb
            clear hi
            refine wpOp_step rfl (fun K hK => ?_)
            go_simp
            refine (ownI 0 _ _ _ hx.out (by assumption)).mono ?_
            rintro e w1 ⟨v1, rfl, hv1, hup1⟩
            go_wp2_with fail
            exact ⟨b0, b1, true, b3, b4, b5, b6, b7, b8, b9, x6_0, x6_1, v1, x6_3, x6_4, x6_5, x6_6, x6_7, x6_9, rfl, rfl, hup.trans hup1, (fun h => (HF0.out h).up hup1), (fun h => (HF1.out h).up hup1), (fun _ => hv1.mono (Nat.zero_le _)), (fun h => by obtain ⟨q0, rq, r0⟩ := HF3.out h; exact ⟨q0, rq, r0.up hup1⟩), (fun h => by obtain ⟨q0, rq, r0⟩ := HF4.out h; exact ⟨q0, rq, r0.up hup1⟩), (fun h => (HF5.out h).up hup1), HF6.out, (fun h => (HF7.out h).up hup1), HF8.out, HF9.out⟩
          · skip
            have hb0q : b0 = true := getB (l := [b0, b1, b2, b3, b4, b5, b6, b7, b8, b9]) (ready_dep hi rfl 0 (by kernel_rfl)) rfl
            have hx0 := hide (HF0.out hb0q)
            clear hb0q
            have hb1q : b2 = true := getB (l := [b0, b1, b2, b3, b4, b5, b6, b7, b8, b9]) (ready_dep hi rfl 2 (by kernel_rfl)) rfl
            have hx1 := hide (HF2.out hb1q)
            clear hb1q
            clear hi
            refine wpOp_step rfl (fun K hK => ?_)
            go_simp
            refine (mulBack _ _ x y _ hx0.out hx1.out hta htb).mono ?_
            rintro e w1 ⟨v0, rfl, hv0, hup1⟩
            go_wp2_with fail
            exact ⟨b0, b1, b2, true, b4, b5, b6, b7, b8, b9, x6_0, x6_1, x6_2, .tuple #[v0, .int .i64 0], x6_4, x6_5, x6_6, x6_7, x6_9, rfl, rfl, hup.trans hup1, (fun h => (HF0.out h).up hup1), (fun h => (HF1.out h).up hup1), (fun h => (HF2.out h).up hup1), (fun _ => ⟨v0, rfl, hv0.mono (Nat.zero_le _)⟩), (fun h => by obtain ⟨q0, rq, r0⟩ := HF4.out h; exact ⟨q0, rq, r0.up hup1⟩), (fun h => (HF5.out h).up hup1), HF6.out, (fun h => (HF7.out h).up hup1), HF8.out, HF9.out⟩
          · skip
            have hb : b3 = true := getB (l := [b0, b1, b2, b3, b4, b5, b6, b7, b8, b9]) (ready_dep hi rfl 3 (by kernel_rfl)) rfl
            have hx := hide (HF3.out hb)
            clear hb
            clear hi
            refine wpOp_step rfl (fun K hK => ?_)
            go_simp
            refine hK _ _ ?_
            clear hK K
            exact ⟨b0, b1, b2, b3, true, b5, b6, b7, b8, b9, x6_0, x6_1, x6_2, x6_3, x6_3, x6_5, x6_6, x6_7, x6_9, rfl, rfl, hup, HF0.out, HF1.out, HF2.out, HF3.out, (fun _ => hx.out), HF5.out, HF6.out, HF7.out, HF8.out, HF9.out⟩
          · skip
            have hb : b4 = true := getB (l := [b0, b1, b2, b3, b4, b5, b6, b7, b8, b9]) (ready_dep hi rfl 4 (by kernel_rfl)) rfl
            have Hb := hide hb
            obtain ⟨v0, hxe, hv0⟩ := HF4.out hb
            clear hb
            subst hxe
            have hn := ready_not hi
            have hst8 : b8 = false := by
              cases e : b8 with
              | false => rfl
              | true => have h5 := (HF8.out e).2; rw [h5] at hn; cases hn
            have Hst8 := hide hst8
            clear hst8
            clear hn
            clear hi
            refine wpOp_step rfl (fun K hK => ?_)
            go_simp
            refine hK _ _ ?_
            clear hK K
            exact ⟨b0, b1, b2, b3, b4, true, b6, b7, b8, b9, x6_0, x6_1, x6_2, x6_3, .tuple #[v0, .int .i64 0], v0, x6_6, x6_7, x6_9, rfl, rfl, hup, HF0.out, HF1.out, HF2.out, HF3.out, HF4.out, (fun _ => hv0), HF6.out, (fun h => by rw [Hst8.out] at *; obtain ⟨g, s, A, n, c, h1, h2, h3, _⟩ := HF7.out h; exact ⟨g, s, A, n, c, h1, h2, h3.up (Up.refl _), fun h => by cases h⟩), (fun h => ⟨(HF8.out h).1, rfl⟩), HF9.out⟩
          · skip
            have hb : b4 = true := getB (l := [b0, b1, b2, b3, b4, b5, b6, b7, b8, b9]) (ready_dep hi rfl 4 (by kernel_rfl)) rfl
            have Hb := hide hb
            obtain ⟨v0, hxe, hv0⟩ := HF4.out hb
            clear hb
            subst hxe
            clear hi
            refine wpOp_step rfl (fun K hK => ?_)
            go_simp
            refine hK _ _ ?_
            clear hK K
            exact ⟨b0, b1, b2, b3, b4, b5, true, b7, b8, b9, x6_0, x6_1, x6_2, x6_3, .tuple #[v0, .int .i64 0], x6_5, .int .i64 0, x6_7, x6_9, rfl, rfl, hup, HF0.out, HF1.out, HF2.out, HF3.out, HF4.out, HF5.out, (fun _ => rfl), HF7.out, HF8.out, HF9.out⟩
          · skip
            have hn := ready_not hi
            have hst8 : b8 = false := by
              cases e : b8 with
              | false => rfl
              | true => have h5 := (HF8.out e).1; rw [h5] at hn; cases hn
            have Hst8 := hide hst8
            clear hst8
            clear hn
            clear hi
            have hsz := hup.size
            have hupA := (Up.refl W).alloc (.cells #[.bool false, .slice none 0 0] 24)
            refine wpOp_step rfl (fun K hK => ?_)
            go_simp
            refine hK _ _ ?_
            clear hK K
            exact ⟨b0, b1, b2, b3, b4, b5, b6, true, b8, b9, x6_0, x6_1, x6_2, x6_3, x6_4, x6_5, x6_6, .pointer (some ⟨W.heap.size, 0, none⟩), x6_9, rfl, rfl, hup.trans hupA, (fun h => (HF0.out h).up hupA), (fun h => (HF1.out h).up hupA), (fun h => (HF2.out h).up hupA), (fun h => by obtain ⟨q0, rq, r0⟩ := HF3.out h; exact ⟨q0, rq, r0.up hupA⟩), (fun h => by obtain ⟨q0, rq, r0⟩ := HF4.out h; exact ⟨q0, rq, r0.up hupA⟩), (fun h => (HF5.out h).up hupA), HF6.out, (fun _ => by rw [Hst8.out]; exact Box.new _ W _ hsz), (fun h => ⟨rfl, (HF8.out h).2⟩), HF9.out⟩
          · skip
            have hb2 : b7 = true := getB (l := [b0, b1, b2, b3, b4, b5, b6, b7, b8, b9]) (ready_dep hi rfl 7 (by kernel_rfl)) rfl
            have hb1 : b5 = true := getB (l := [b0, b1, b2, b3, b4, b5, b6, b7, b8, b9]) (ready_dep hi rfl 5 (by kernel_rfl)) rfl
            clear hi
            obtain ⟨s9, A9, n9, c9, hxc⟩ := (HF5.out hb1).agg
            subst hxc
            obtain ⟨g, s8, A8, n8, c8, hxb, hgB, hbk, _⟩ := HF7.out hb2
            subst hxb
            have f1 := hbk.cell (i := 0) rfl
            have f2 := hbk.cell (i := 1) rfl
            have f3 := hbk.frozen 0
            have f4 := hbk.frozen 1
            have Hb1 := hide hb1
            have Hb2 := hide hb2
            have hsz := hup.size
            clear hb1 hb2
            refine wpOp_step rfl (fun K hK => ?_)
            go_simp
            refine hK _ _ ?_
            clear hK K
            exact ⟨b0, b1, b2, b3, b4, b5, b6, b7, true, b9, x6_0, x6_1, x6_2, x6_3, x6_4, .agg #[.bool s9, .slice A9 n9 c9], x6_6, .pointer (some ⟨g, 0, none⟩), x6_9, rfl, rfl, hup.two (g := g) hgB _ _, (fun h => (HF0.out h).boxed hbk _ _), (fun h => (HF1.out h).boxed hbk _ _), (fun h => (HF2.out h).boxed hbk _ _), (fun h => by obtain ⟨q0, rq, r0⟩ := HF3.out h; exact ⟨q0, rq, r0.boxed hbk _ _⟩), (fun h => by obtain ⟨q0, rq, r0⟩ := HF4.out h; exact ⟨q0, rq, r0.boxed hbk _ _⟩), (fun h => (HF5.out h).boxed hbk _ _), HF6.out, (fun _ => hbk.fill hgB), (fun _ => ⟨Hb2.out, Hb1.out⟩), HF9.out⟩
          · skip
            have hb : b6 = true := getB (l := [b0, b1, b2, b3, b4, b5, b6, b7, b8, b9]) (ready_dep hi rfl 6 (by kernel_rfl)) rfl
            have hx := hide (HF6.out hb)
            clear hb
            clear hi
            refine wpOp_step rfl (fun K hK => ?_)
            go_simp
            refine hK _ _ ?_
            clear hK K
            exact ⟨b0, b1, b2, b3, b4, b5, b6, b7, b8, true, x6_0, x6_1, x6_2, x6_3, x6_4, x6_5, x6_6, x6_7, x6_6, rfl, rfl, hup, HF0.out, HF1.out, HF2.out, HF3.out, HF4.out, HF5.out, HF6.out, HF7.out, HF8.out, (fun _ => hx.out)⟩
        case hQ =>
          rintro l a W6_ ⟨b0, b1, b2, b3, b4, b5, b6, b7, b8, b9, x6_0, x6_1, x6_2, x6_3, x6_4, x6_5, x6_6, x6_7, x6_9, rfl, rfl, hup, hF0, hF1, hF2, hF3, hF4, hF5, hF6, hF7, hF8, hF9⟩ hall
          have hb0 : b0 = true := getB (l := [b0, b1, b2, b3, b4, b5, b6, b7, b8, b9]) (hall 0 (by decide)) rfl
          have hb1 : b1 = true := getB (l := [b0, b1, b2, b3, b4, b5, b6, b7, b8, b9]) (hall 1 (by decide)) rfl
          have hb2 : b2 = true := getB (l := [b0, b1, b2, b3, b4, b5, b6, b7, b8, b9]) (hall 2 (by decide)) rfl
          have hb3 : b3 = true := getB (l := [b0, b1, b2, b3, b4, b5, b6, b7, b8, b9]) (hall 3 (by decide)) rfl
          have hb4 : b4 = true := getB (l := [b0, b1, b2, b3, b4, b5, b6, b7, b8, b9]) (hall 4 (by decide)) rfl
          have hb5 : b5 = true := getB (l := [b0, b1, b2, b3, b4, b5, b6, b7, b8, b9]) (hall 5 (by decide)) rfl
          have hb6 : b6 = true := getB (l := [b0, b1, b2, b3, b4, b5, b6, b7, b8, b9]) (hall 6 (by decide)) rfl
          have hb7 : b7 = true := getB (l := [b0, b1, b2, b3, b4, b5, b6, b7, b8, b9]) (hall 7 (by decide)) rfl
          have hb8 : b8 = true := getB (l := [b0, b1, b2, b3, b4, b5, b6, b7, b8, b9]) (hall 8 (by decide)) rfl
          have hb9 : b9 = true := getB (l := [b0, b1, b2, b3, b4, b5, b6, b7, b8, b9]) (hall 9 (by decide)) rfl
          subst hb0 hb1 hb2 hb3 hb4 hb5 hb6 hb7 hb8 hb9
          clear hall
          have m0 := hF0 rfl
          have m1 := hF1 rfl
          have m2 := hF2 rfl
          have m3 := hF3 rfl
          have m4 := hF4 rfl
          have m5 := hF5 rfl
          have m6 := hF6 rfl
          have m7 := hF7 rfl
          have m9 := hF9 rfl
          clear hF0 hF1 hF2 hF3 hF4 hF5 hF6 hF7 hF8 hF9
          obtain ⟨gp, sp, Ap, np, cp, rfl, hgp, hkp, hep⟩ := m7
          obtain rfl := hep rfl
          clear hep hgp
          have hip := m5
          obtain rfl := m6
          obtain rfl := m9
          clear m0 m1 m2 m3 m4 m5
          have hka := hka.up hup
          have hkb := hkb.up hup
          have hkq := hkq.up hup
          have hkr := hkr.up hup
          have hkq2 := hkq2.up hup
          have hkr2 := hkr2.up hup
          have hia := hia.up hup
          have hib := hib.up hup
          have hiq := hiq.up hup
          have hir := hir.up hup
          have hiq2 := hiq2.up hup
          have hir2 := hir2.up hup
          have hupw := hupw.trans hup
          clear hup
          have hkaa := hka.cell (i := 0) rfl
          have hkab := hka.cell (i := 1) rfl
          have hkal := hka.lt
          have hkba := hkb.cell (i := 0) rfl
          have hkbb := hkb.cell (i := 1) rfl
          have hkbl := hkb.lt
          have hkqa := hkq.cell (i := 0) rfl
          have hkqb := hkq.cell (i := 1) rfl
          have hkql := hkq.lt
          have hkra := hkr.cell (i := 0) rfl
          have hkrb := hkr.cell (i := 1) rfl
          have hkrl := hkr.lt
          have hkq2a := hkq2.cell (i := 0) rfl
          have hkq2b := hkq2.cell (i := 1) rfl
          have hkq2l := hkq2.lt
          have hkr2a := hkr2.cell (i := 0) rfl
          have hkr2b := hkr2.cell (i := 1) rfl
          have hkr2l := hkr2.lt
          have hkpa := hkp.cell (i := 0) rfl
          have hkpb := hkp.cell (i := 1) rfl
          have hkpl := hkp.lt
          go_wp2_with fail
          clear hkaa hkab hkal hkba hkbb hkbl hkqa hkqb hkql hkra hkrb hkrl hkq2a hkq2b hkq2l hkr2a hkr2b hkr2l hkpa hkpb hkpl
          refine (addBack _ _ x y _ hip hir hta).mono ?_
          rintro e w7_ ⟨v7_0, rfl, hv7_0, hup⟩
          have hka := hka.up hup
          have hkb := hkb.up hup
          have hkq := hkq.up hup
          have hkr := hkr.up hup
          have hkq2 := hkq2.up hup
          have hkr2 := hkr2.up hup
          have hkp := hkp.up hup
          have hia := hia.up hup
          have hib := hib.up hup
          have hiq := hiq.up hup
          have hir := hir.up hup
          have hiq2 := hiq2.up hup
          have hir2 := hir2.up hup
          have hip := hip.up hup
          have hupw := hupw.trans hup
          clear hup
          obtain ⟨sz, Az, nz, cz, rfl⟩ := hv7_0.agg
          have hkaa := hka.cell (i := 0) rfl
          have hkab := hka.cell (i := 1) rfl
          have hkal := hka.lt
          have hkba := hkb.cell (i := 0) rfl
          have hkbb := hkb.cell (i := 1) rfl
          have hkbl := hkb.lt
          have hkqa := hkq.cell (i := 0) rfl
          have hkqb := hkq.cell (i := 1) rfl
          have hkql := hkq.lt
          have hkra := hkr.cell (i := 0) rfl
          have hkrb := hkr.cell (i := 1) rfl
          have hkrl := hkr.lt
          have hkq2a := hkq2.cell (i := 0) rfl
          have hkq2b := hkq2.cell (i := 1) rfl
          have hkq2l := hkq2.lt
          have hkr2a := hkr2.cell (i := 0) rfl
          have hkr2b := hkr2.cell (i := 1) rfl
          have hkr2l := hkr2.lt
          have hkpa := hkp.cell (i := 0) rfl
          have hkpb := hkp.cell (i := 1) rfl
          have hkpl := hkp.lt
          go_wp2_with fail
          clear hkaa hkab hkal hkba hkbb hkbl hkqa hkqb hkql hkra hkrb hkrl hkq2a hkq2b hkq2l hkr2a hkr2b hkr2l hkpa hkpb hkpl
          obtain ⟨u7_, hu7_⟩ : ∃ x, x = (w7_.alloc (.cells #[.bool sz, .slice Az nz cz] 24)) := ⟨_, rfl⟩
          have hkz : Bk u7_ w7_.heap.size 24 #[.bool sz, .slice Az nz cz] := by rw [hu7_]; exact Bk.new w7_ _ _
          have hup : Up w7_ u7_ := by rw [hu7_]; exact (Up.refl w7_).alloc _
          rw [← hu7_]
          clear hu7_
          have hka := hka.up hup
          have hkb := hkb.up hup
          have hkq := hkq.up hup
          have hkr := hkr.up hup
          have hkq2 := hkq2.up hup
          have hkr2 := hkr2.up hup
          have hkp := hkp.up hup
          have hia := hia.up hup
          have hib := hib.up hup
          have hiq := hiq.up hup
          have hir := hir.up hup
          have hiq2 := hiq2.up hup
          have hir2 := hir2.up hup
          have hip := hip.up hup
          have hupw := hupw.trans hup
          have hiz := (hv7_0.mono (Nat.zero_le _)).up hup
          clear hup hv7_0
          by_cases hr0 : x.tmod y = 0
          · skip
            have HR0 := hide hr0
            clear hr0
            have ka0 : u7_.cell? ⟨ga, 0, none⟩ = some (.bool sa) := hka.cell (i := 0) rfl
            have kb0 : u7_.cell? ⟨ga, 1, none⟩ = some (.slice Aa na ca) := hka.cell (i := 1) rfl
            have ka1 : u7_.cell? ⟨gb, 0, none⟩ = some (.bool sb) := hkb.cell (i := 0) rfl
            have kb1 : u7_.cell? ⟨gb, 1, none⟩ = some (.slice Ab nb cb) := hkb.cell (i := 1) rfl
            have ka2 : u7_.cell? ⟨gq, 0, none⟩ = some (.bool sq) := hkq.cell (i := 0) rfl
            have kb2 : u7_.cell? ⟨gq, 1, none⟩ = some (.slice Aq nq cq) := hkq.cell (i := 1) rfl
            have ka3 : u7_.cell? ⟨gr, 0, none⟩ = some (.bool sr) := hkr.cell (i := 0) rfl
            have kb3 : u7_.cell? ⟨gr, 1, none⟩ = some (.slice Ar nr cr) := hkr.cell (i := 1) rfl
            have ka4 : u7_.cell? ⟨w5_.heap.size, 0, none⟩ = some (.bool sq2) := hkq2.cell (i := 0) rfl
            have kb4 : u7_.cell? ⟨w5_.heap.size, 1, none⟩ = some (.slice Aq2 nq2 cq2) := hkq2.cell (i := 1) rfl
            have ka5 : u7_.cell? ⟨w5_.heap.size + 1, 0, none⟩ = some (.bool sr2) := hkr2.cell (i := 0) rfl
            have kb5 : u7_.cell? ⟨w5_.heap.size + 1, 1, none⟩ = some (.slice Ar2 nr2 cr2) := hkr2.cell (i := 1) rfl
            have ka6 : u7_.cell? ⟨w7_.heap.size, 0, none⟩ = some (.bool sz) := hkz.cell (i := 0) rfl
            have kb6 : u7_.cell? ⟨w7_.heap.size, 1, none⟩ = some (.slice Az nz cz) := hkz.cell (i := 1) rfl
            have hupA : Up u7_ u7_.drew := (Up.refl u7_).drew
            refine wp_region_noPanic ?_
            refine wp_region_held_drew (S := fun w' => w'.cell? ⟨ga, 0, none⟩ = some (.bool sa) ∧ w'.cell? ⟨ga, 1, none⟩ = some (.slice Aa na ca) ∧ w'.cell? ⟨gb, 0, none⟩ = some (.bool sb) ∧ w'.cell? ⟨gb, 1, none⟩ = some (.slice Ab nb cb) ∧ w'.cell? ⟨gq, 0, none⟩ = some (.bool sq) ∧ w'.cell? ⟨gq, 1, none⟩ = some (.slice Aq nq cq) ∧ w'.cell? ⟨gr, 0, none⟩ = some (.bool sr) ∧ w'.cell? ⟨gr, 1, none⟩ = some (.slice Ar nr cr) ∧ w'.cell? ⟨w5_.heap.size, 0, none⟩ = some (.bool sq2) ∧ w'.cell? ⟨w5_.heap.size, 1, none⟩ = some (.slice Aq2 nq2 cq2) ∧ w'.cell? ⟨w5_.heap.size + 1, 0, none⟩ = some (.bool sr2) ∧ w'.cell? ⟨w5_.heap.size + 1, 1, none⟩ = some (.slice Ar2 nr2 cr2) ∧ w'.cell? ⟨w7_.heap.size, 0, none⟩ = some (.bool sz) ∧ w'.cell? ⟨w7_.heap.size, 1, none⟩ = some (.slice Az nz cz)) (by kernel_rfl) ?_ (fun hHeld => ?_)
            · exact ⟨hupA.keep ka0, hupA.keep kb0, hupA.keep ka1, hupA.keep kb1, hupA.keep ka2, hupA.keep kb2, hupA.keep ka3, hupA.keep kb3, hupA.keep ka4, hupA.keep kb4, hupA.keep ka5, hupA.keep kb5, hupA.keep ka6, hupA.keep kb6⟩
            simp only [List.size_toArray, List.length_cons, List.length_nil, Nat.reduceAdd]
            refine take_at (i := 0) (d := 67) (v := .int .i64 0) rfl rfl ?_ ?_ ?_ (fun _ _ _ h => h) (Or.inl ⟨?_, ?_⟩) ?_ ?_
            · kernel_rfl
            · decide +kernel
            · decide +kernel
            · rfl
            · (intro w hSw; (try dsimp only at hSw); go_simp; (try with_reducible rfl))
            · assumption
            (try simp only [List.setIfInBounds_toArray, List.set_cons_zero, List.set_cons_succ])
            refine take_at (i := 1) (d := 68) (v := .bool true) rfl rfl ?_ ?_ ?_ (fun _ _ _ h => h) (Or.inl ⟨?_, ?_⟩) ?_ ?_
            · kernel_rfl
            · decide +kernel
            · decide +kernel
            · rfl
            · (intro w hSw; (try dsimp only at hSw); go_simp; (try with_reducible rfl))
            · assumption
            (try simp only [List.setIfInBounds_toArray, List.set_cons_zero, List.set_cons_succ])
            refine take_at (i := 2) (d := 69) (v := .bool true) rfl rfl ?_ ?_ ?_ (fun _ _ _ h => h) (Or.inl ⟨?_, ?_⟩) ?_ ?_
            · kernel_rfl
            · decide +kernel
            · decide +kernel
            · rfl
            · (intro w hSw; (try dsimp only at hSw); go_simp; (try with_reducible rfl))
            · assumption
            (try simp only [List.setIfInBounds_toArray, List.set_cons_zero, List.set_cons_succ])
            refine take_at (i := 3) (d := 70) (v := .int .i64 0) rfl rfl ?_ ?_ ?_ (fun _ _ _ h => h) (Or.inl ⟨?_, ?_⟩) ?_ ?_
            · kernel_rfl
            · decide +kernel
            · decide +kernel
            · rfl
            · (intro w hSw; (try dsimp only at hSw); go_simp; (try with_reducible rfl))
            · assumption
            (try simp only [List.setIfInBounds_toArray, List.set_cons_zero, List.set_cons_succ])
            refine take_at (i := 4) (d := 71) (v := .bool true) rfl rfl ?_ ?_ ?_ (fun _ _ _ h => h) (Or.inl ⟨?_, ?_⟩) ?_ ?_
            · kernel_rfl
            · decide +kernel
            · decide +kernel
            · rfl
            · (intro w hSw; (try dsimp only at hSw); go_simp; (try with_reducible rfl))
            · assumption
            (try simp only [List.setIfInBounds_toArray, List.set_cons_zero, List.set_cons_succ])
            refine take_at (i := 5) (d := 72) (v := .bool true) rfl rfl ?_ ?_ ?_ (fun _ _ _ h => h) (Or.inl ⟨?_, ?_⟩) ?_ ?_
            · kernel_rfl
            · decide +kernel
            · decide +kernel
            · rfl
            · (intro w hSw; (try dsimp only at hSw); go_simp; (try with_reducible rfl))
            · assumption
            (try simp only [List.setIfInBounds_toArray, List.set_cons_zero, List.set_cons_succ])
            refine take_at (i := 6) (d := 73) (v := .bool true) rfl rfl ?_ ?_ ?_ (fun _ _ _ h => h) (Or.inl ⟨?_, ?_⟩) ?_ ?_
            · kernel_rfl
            · decide +kernel
            · decide +kernel
            · rfl
            · (intro w hSw; (try dsimp only at hSw); go_simp; (try with_reducible rfl))
            · assumption
            (try simp only [List.setIfInBounds_toArray, List.set_cons_zero, List.set_cons_succ])
            refine take_at (i := 7) (d := 74) (v := .int .i64 0) rfl rfl ?_ ?_ ?_ (fun _ _ _ h => h) (Or.inl ⟨?_, ?_⟩) ?_ ?_
            · kernel_rfl
            · decide +kernel
            · decide +kernel
            · rfl
            · (intro w hSw; (try dsimp only at hSw); go_simp; (try with_reducible rfl))
            · assumption
            (try simp only [List.setIfInBounds_toArray, List.set_cons_zero, List.set_cons_succ])
            refine take_at (i := 8) (d := 75) (v := .bool true) rfl rfl ?_ ?_ ?_ (fun _ _ _ h => h) (Or.inl ⟨?_, ?_⟩) ?_ ?_
            · kernel_rfl
            · decide +kernel
            · decide +kernel
            · rfl
            · (intro w hSw; (try dsimp only at hSw); go_simp; (try with_reducible rfl))
            · assumption
            (try simp only [List.setIfInBounds_toArray, List.set_cons_zero, List.set_cons_succ])
            refine take_at (i := 9) (d := 76) (v := .bool true) rfl rfl ?_ ?_ ?_ (fun _ _ _ h => h) (Or.inl ⟨?_, ?_⟩) ?_ ?_
            · kernel_rfl
            · decide +kernel
            · decide +kernel
            · rfl
            · (intro w hSw; (try dsimp only at hSw); go_simp; (try with_reducible rfl))
            · assumption
            (try simp only [List.setIfInBounds_toArray, List.set_cons_zero, List.set_cons_succ])
            refine take_at (i := 10) (d := 77) (v := .bool true) rfl rfl ?_ ?_ ?_ (fun _ _ _ h => h) (Or.inl ⟨?_, ?_⟩) ?_ ?_
            · kernel_rfl
            · decide +kernel
            · decide +kernel
            · rfl
            · (intro w hSw; (try dsimp only at hSw); go_simp; (try with_reducible rfl))
            · assumption
            (try simp only [List.setIfInBounds_toArray, List.set_cons_zero, List.set_cons_succ])
            refine take_at (i := 11) (d := 78) (v := .agg #[.bool sq, .slice Aq nq cq]) rfl rfl ?_ ?_ ?_ (fun _ _ _ h => h) (Or.inl ⟨?_, ?_⟩) ?_ ?_
            · kernel_rfl
            · decide +kernel
            · decide +kernel
            · rfl
            · (intro w hSw; (try dsimp only at hSw); go_simp; (try with_reducible rfl))
            · assumption
            (try simp only [List.setIfInBounds_toArray, List.set_cons_zero, List.set_cons_succ])
            refine take_at (i := 12) (d := 79) (v := .agg #[.bool sq2, .slice Aq2 nq2 cq2]) rfl rfl ?_ ?_ ?_ (fun _ _ _ h => h) (Or.inl ⟨?_, ?_⟩) ?_ ?_
            · kernel_rfl
            · decide +kernel
            · decide +kernel
            · rfl
            · (intro w hSw; (try dsimp only at hSw); go_simp; (try with_reducible rfl))
            · assumption
            (try simp only [List.setIfInBounds_toArray, List.set_cons_zero, List.set_cons_succ])
            refine wpAnyH_ready (rs := [13]) (by kernel_rfl) (by simp) ?_
            refine AllReadyH.cons rfl (fun K hK => ?_) AllReadyH.nil
            go_simp
            refine (equalI 0 0 _ _ (x.tdiv y) _ (hiq.up hupA) (hiq2.up hupA) htq).mono ?_
            rintro e wx ⟨rfl, hupx⟩
            replace hupA := hupA.trans hupx
            go_wp2_with fail
            refine hK.out _ _ ?_ (fun hHeld => ?_)
            · exact ⟨hupA.keep ka0, hupA.keep kb0, hupA.keep ka1, hupA.keep kb1, hupA.keep ka2, hupA.keep kb2, hupA.keep ka3, hupA.keep kb3, hupA.keep ka4, hupA.keep kb4, hupA.keep ka5, hupA.keep kb5, hupA.keep ka6, hupA.keep kb6⟩
            clear hK K
            (try simp only [List.setIfInBounds_toArray, List.set_cons_zero, List.set_cons_succ])
            refine take_at (i := 14) (d := 81) (v := .bool true) rfl rfl ?_ ?_ ?_ (fun _ _ _ h => h) (Or.inl ⟨?_, ?_⟩) ?_ ?_
            · kernel_rfl
            · decide +kernel
            · decide +kernel
            · rfl
            · (intro w hSw; (try dsimp only at hSw); go_simp; (try with_reducible rfl))
            · assumption
            (try simp only [List.setIfInBounds_toArray, List.set_cons_zero, List.set_cons_succ])
            refine take_at (i := 15) (d := 82) (v := .bool true) rfl rfl ?_ ?_ ?_ (fun _ _ _ h => h) (Or.inl ⟨?_, ?_⟩) ?_ ?_
            · kernel_rfl
            · decide +kernel
            · decide +kernel
            · rfl
            · (intro w hSw; (try dsimp only at hSw); go_simp; (try with_reducible rfl))
            · assumption
            (try simp only [List.setIfInBounds_toArray, List.set_cons_zero, List.set_cons_succ])
            refine take_at (i := 16) (d := 83) (v := .agg #[.bool sr, .slice Ar nr cr]) rfl rfl ?_ ?_ ?_ (fun _ _ _ h => h) (Or.inl ⟨?_, ?_⟩) ?_ ?_
            · kernel_rfl
            · decide +kernel
            · decide +kernel
            · rfl
            · (intro w hSw; (try dsimp only at hSw); go_simp; (try with_reducible rfl))
            · assumption
            (try simp only [List.setIfInBounds_toArray, List.set_cons_zero, List.set_cons_succ])
            refine take_at (i := 17) (d := 84) (v := .agg #[.bool sr2, .slice Ar2 nr2 cr2]) rfl rfl ?_ ?_ ?_ (fun _ _ _ h => h) (Or.inl ⟨?_, ?_⟩) ?_ ?_
            · kernel_rfl
            · decide +kernel
            · decide +kernel
            · rfl
            · (intro w hSw; (try dsimp only at hSw); go_simp; (try with_reducible rfl))
            · assumption
            (try simp only [List.setIfInBounds_toArray, List.set_cons_zero, List.set_cons_succ])
            refine wpAnyH_ready (rs := [18]) (by kernel_rfl) (by simp) ?_
            refine AllReadyH.cons rfl (fun K hK => ?_) AllReadyH.nil
            go_simp
            refine (equalI 0 0 _ _ (x.tmod y) _ (hir.up hupA) (hir2.up hupA) htr).mono ?_
            rintro e wx ⟨rfl, hupx⟩
            replace hupA := hupA.trans hupx
            go_wp2_with fail
            refine hK.out _ _ ?_ (fun hHeld => ?_)
            · exact ⟨hupA.keep ka0, hupA.keep kb0, hupA.keep ka1, hupA.keep kb1, hupA.keep ka2, hupA.keep kb2, hupA.keep ka3, hupA.keep kb3, hupA.keep ka4, hupA.keep kb4, hupA.keep ka5, hupA.keep kb5, hupA.keep ka6, hupA.keep kb6⟩
            clear hK K
            (try simp only [List.setIfInBounds_toArray, List.set_cons_zero, List.set_cons_succ])
            refine take_at (i := 19) (d := 86) (v := .bool true) rfl rfl ?_ ?_ ?_ (fun _ _ _ h => h) (Or.inl ⟨?_, ?_⟩) ?_ ?_
            · kernel_rfl
            · decide +kernel
            · decide +kernel
            · rfl
            · (intro w hSw; (try dsimp only at hSw); go_simp; (try with_reducible rfl))
            · assumption
            (try simp only [List.setIfInBounds_toArray, List.set_cons_zero, List.set_cons_succ])
            refine take_at (i := 20) (d := 87) (v := .bool true) rfl rfl ?_ ?_ ?_ (fun _ _ _ h => h) (Or.inl ⟨?_, ?_⟩) ?_ ?_
            · kernel_rfl
            · decide +kernel
            · decide +kernel
            · rfl
            · (intro w hSw; (try dsimp only at hSw); go_simp; (try with_reducible rfl))
            · assumption
            (try simp only [List.setIfInBounds_toArray, List.set_cons_zero, List.set_cons_succ])
            refine take_at (i := 21) (d := 88) (v := .agg #[.bool sz, .slice Az nz cz]) rfl rfl ?_ ?_ ?_ (fun _ _ _ h => h) (Or.inl ⟨?_, ?_⟩) ?_ ?_
            · kernel_rfl
            · decide +kernel
            · decide +kernel
            · rfl
            · (intro w hSw; (try dsimp only at hSw); go_simp; (try with_reducible rfl))
            · assumption
            (try simp only [List.setIfInBounds_toArray, List.set_cons_zero, List.set_cons_succ])
            refine take_at (i := 22) (d := 89) (v := .agg #[.bool sa, .slice Aa na ca]) rfl rfl ?_ ?_ ?_ (fun _ _ _ h => h) (Or.inl ⟨?_, ?_⟩) ?_ ?_
            · kernel_rfl
            · decide +kernel
            · decide +kernel
            · rfl
            · (intro w hSw; (try dsimp only at hSw); go_simp; (try with_reducible rfl))
            · assumption
            (try simp only [List.setIfInBounds_toArray, List.set_cons_zero, List.set_cons_succ])
            refine wpAnyH_ready (rs := [23]) (by kernel_rfl) (by simp) ?_
            refine AllReadyH.cons rfl (fun K hK => ?_) AllReadyH.nil
            go_simp
            refine (equalI 0 0 _ _ x _ (hiz.up hupA) (hia.up hupA) hta).mono ?_
            rintro e wx ⟨rfl, hupx⟩
            replace hupA := hupA.trans hupx
            go_wp2_with fail
            refine hK.out _ _ ?_ (fun hHeld => ?_)
            · exact ⟨hupA.keep ka0, hupA.keep kb0, hupA.keep ka1, hupA.keep kb1, hupA.keep ka2, hupA.keep kb2, hupA.keep ka3, hupA.keep kb3, hupA.keep ka4, hupA.keep kb4, hupA.keep ka5, hupA.keep kb5, hupA.keep ka6, hupA.keep kb6⟩
            clear hK K
            (try simp only [List.setIfInBounds_toArray, List.set_cons_zero, List.set_cons_succ])
            refine take_at (i := 24) (d := 91) (v := .bool true) rfl rfl ?_ ?_ ?_ (fun _ _ _ h => h) (Or.inl ⟨?_, ?_⟩) ?_ ?_
            · kernel_rfl
            · decide +kernel
            · decide +kernel
            · rfl
            · (intro w hSw; (try dsimp only at hSw); go_simp; (try with_reducible rfl))
            · assumption
            (try simp only [List.setIfInBounds_toArray, List.set_cons_zero, List.set_cons_succ])
            refine take_at (i := 25) (d := 92) (v := .bool true) rfl rfl ?_ ?_ ?_ (fun _ _ _ h => h) (Or.inl ⟨?_, ?_⟩) ?_ ?_
            · kernel_rfl
            · decide +kernel
            · decide +kernel
            · rfl
            · (intro w hSw; (try dsimp only at hSw); go_simp; (try with_reducible rfl))
            · assumption
            (try simp only [List.setIfInBounds_toArray, List.set_cons_zero, List.set_cons_succ])
            refine take_at (i := 26) (d := 93) (v := .agg #[.bool sr, .slice Ar nr cr]) rfl rfl ?_ ?_ ?_ (fun _ _ _ h => h) (Or.inl ⟨?_, ?_⟩) ?_ ?_
            · kernel_rfl
            · decide +kernel
            · decide +kernel
            · rfl
            · (intro w hSw; (try dsimp only at hSw); go_simp; (try with_reducible rfl))
            · assumption
            (try simp only [List.setIfInBounds_toArray, List.set_cons_zero, List.set_cons_succ])
            refine take_at (i := 28) (d := 95) (v := .agg #[.bool sb, .slice Ab nb cb]) rfl rfl ?_ ?_ ?_ (fun _ _ _ h => h) (Or.inl ⟨?_, ?_⟩) ?_ ?_
            · kernel_rfl
            · decide +kernel
            · decide +kernel
            · rfl
            · (intro w hSw; (try dsimp only at hSw); go_simp; (try with_reducible rfl))
            · assumption
            (try simp only [List.setIfInBounds_toArray, List.set_cons_zero, List.set_cons_succ])
            refine wpAnyH_ready (rs := [27]) (by kernel_rfl) (by simp) ?_
            refine AllReadyH.cons rfl (fun K hK => ?_) AllReadyH.nil
            go_simp
            refine (abs_any 0 _ (x.tmod y) _ (hir.up hupA) htr).mono ?_
            rintro e wx ⟨vr, rfl, hvr, hupx⟩
            replace hupA := hupA.trans hupx
            go_wp2_with fail
            refine hK.out _ _ ?_ (fun hHeld => ?_)
            · exact ⟨hupA.keep ka0, hupA.keep kb0, hupA.keep ka1, hupA.keep kb1, hupA.keep ka2, hupA.keep kb2, hupA.keep ka3, hupA.keep kb3, hupA.keep ka4, hupA.keep kb4, hupA.keep ka5, hupA.keep kb5, hupA.keep ka6, hupA.keep kb6⟩
            clear hK K
            (try simp only [List.setIfInBounds_toArray, List.set_cons_zero, List.set_cons_succ])
            refine wpAnyH_ready (rs := [29]) (by kernel_rfl) (by simp) ?_
            refine AllReadyH.cons rfl (fun K hK => ?_) AllReadyH.nil
            go_simp
            refine (abs_any 0 _ y _ (hib.up hupA) htb).mono ?_
            rintro e wy ⟨vb, rfl, hvb, hupy⟩
            replace hupA := hupA.trans hupy
            go_wp2_with fail
            refine hK.out _ _ ?_ (fun hHeld => ?_)
            · exact ⟨hupA.keep ka0, hupA.keep kb0, hupA.keep ka1, hupA.keep kb1, hupA.keep ka2, hupA.keep kb2, hupA.keep ka3, hupA.keep kb3, hupA.keep ka4, hupA.keep kb4, hupA.keep ka5, hupA.keep kb5, hupA.keep ka6, hupA.keep kb6⟩
            clear hK K
            (try simp only [List.setIfInBounds_toArray, List.set_cons_zero, List.set_cons_succ])
            refine wpAnyH_ready (rs := [30]) (by kernel_rfl) (by simp) ?_
            refine AllReadyH.cons rfl (fun K hK => ?_) AllReadyH.nil
            go_simp
            refine (cmpLess _ _ x y _ ((hvr.mono (Nat.zero_le _)).up hupy) (hvb.mono (Nat.zero_le _)) hta htb HY0.out).mono ?_
            rintro e wx ⟨rfl, hupx⟩
            replace hupA := hupA.trans hupx
            go_wp2_with fail
            refine hK.out _ _ ?_ (fun hHeld => ?_)
            · exact ⟨hupA.keep ka0, hupA.keep kb0, hupA.keep ka1, hupA.keep kb1, hupA.keep ka2, hupA.keep kb2, hupA.keep ka3, hupA.keep kb3, hupA.keep ka4, hupA.keep kb4, hupA.keep ka5, hupA.keep kb5, hupA.keep ka6, hupA.keep kb6⟩
            clear hK K
            (try simp only [List.setIfInBounds_toArray, List.set_cons_zero, List.set_cons_succ])
            refine take_at (i := 31) (d := 98) (v := .bool true) rfl rfl ?_ ?_ ?_ (fun _ _ _ h => h) (Or.inl ⟨?_, ?_⟩) ?_ ?_
            · kernel_rfl
            · decide +kernel
            · decide +kernel
            · rfl
            · (intro w hSw; (try dsimp only at hSw); go_simp; (try with_reducible rfl))
            · assumption
            (try simp only [List.setIfInBounds_toArray, List.set_cons_zero, List.set_cons_succ])
            refine take_at (i := 32) (d := 99) (v := .bool true) rfl rfl ?_ ?_ ?_ (fun _ _ _ h => h) (Or.inl ⟨?_, ?_⟩) ?_ ?_
            · kernel_rfl
            · decide +kernel
            · decide +kernel
            · rfl
            · (intro w hSw; (try dsimp only at hSw); go_simp; (try with_reducible rfl))
            · assumption
            (try simp only [List.setIfInBounds_toArray, List.set_cons_zero, List.set_cons_succ])
            refine take_at (i := 33) (d := 100) (v := .bool true) rfl rfl ?_ ?_ ?_ (fun _ _ _ h => h) (Or.inl ⟨?_, ?_⟩) ?_ ?_
            · kernel_rfl
            · decide +kernel
            · decide +kernel
            · rfl
            · (intro w hSw; (try dsimp only at hSw); go_simp; (try with_reducible rfl))
            · assumption
            (try simp only [List.setIfInBounds_toArray, List.set_cons_zero, List.set_cons_succ])
            refine take_at (i := 34) (d := 101) (v := .agg #[.bool sr, .slice Ar nr cr]) rfl rfl ?_ ?_ ?_ (fun _ _ _ h => h) (Or.inl ⟨?_, ?_⟩) ?_ ?_
            · kernel_rfl
            · decide +kernel
            · decide +kernel
            · rfl
            · (intro w hSw; (try dsimp only at hSw); go_simp; (try with_reducible rfl))
            · assumption
            (try simp only [List.setIfInBounds_toArray, List.set_cons_zero, List.set_cons_succ])
            refine wpAnyH_ready (rs := [35]) (by kernel_rfl) (by simp) ?_
            refine AllReadyH.cons rfl (fun K hK => ?_) AllReadyH.nil
            go_simp
            refine (rsignZ _ (x.tmod y) _ (hir.up hupA) htr HR0.out).mono ?_
            rintro e wx ⟨rfl, hupx⟩
            replace hupA := hupA.trans hupx
            go_wp2_with fail
            refine hK.out _ _ ?_ (fun hHeld => ?_)
            · exact ⟨hupA.keep ka0, hupA.keep kb0, hupA.keep ka1, hupA.keep kb1, hupA.keep ka2, hupA.keep kb2, hupA.keep ka3, hupA.keep kb3, hupA.keep ka4, hupA.keep kb4, hupA.keep ka5, hupA.keep kb5, hupA.keep ka6, hupA.keep kb6⟩
            clear hK K
            (try simp only [List.setIfInBounds_toArray, List.set_cons_zero, List.set_cons_succ])
            refine take_at (i := 36) (d := 103) (v := .bool true) rfl rfl ?_ ?_ ?_ (fun _ _ _ h => h) (Or.inl ⟨?_, ?_⟩) ?_ ?_
            · kernel_rfl
            · decide +kernel
            · decide +kernel
            · rfl
            · (intro w hSw; (try dsimp only at hSw); go_simp; (try with_reducible rfl))
            · assumption
            (try simp only [List.setIfInBounds_toArray, List.set_cons_zero, List.set_cons_succ])
            refine take_at (i := 37) (d := 104) (v := .bool true) rfl rfl ?_ ?_ ?_ (fun _ _ _ h => h) (Or.inl ⟨?_, ?_⟩) ?_ ?_
            · kernel_rfl
            · decide +kernel
            · decide +kernel
            · rfl
            · (intro w hSw; (try dsimp only at hSw); go_simp; (try with_reducible rfl))
            · assumption
            (try simp only [List.setIfInBounds_toArray, List.set_cons_zero, List.set_cons_succ])
            refine take_at (i := 38) (d := 105) (v := undef) rfl rfl ?_ ?_ ?_ (fun _ _ _ h => h) (Or.inr ⟨?_, rfl⟩) ?_ ?_
            · kernel_rfl
            · decide +kernel
            · decide +kernel
            · rfl
            · assumption
            (try simp only [List.setIfInBounds_toArray, List.set_cons_zero, List.set_cons_succ])
            refine take_at (i := 40) (d := 107) (v := undef) rfl rfl ?_ ?_ ?_ (fun _ _ _ h => h) (Or.inr ⟨?_, rfl⟩) ?_ ?_
            · kernel_rfl
            · decide +kernel
            · decide +kernel
            · rfl
            · assumption
            (try simp only [List.setIfInBounds_toArray, List.set_cons_zero, List.set_cons_succ])
            refine take_at (i := 39) (d := 106) (v := undef) rfl rfl ?_ ?_ ?_ (fun _ _ _ h => h) (Or.inr ⟨?_, rfl⟩) ?_ ?_
            · kernel_rfl
            · decide +kernel
            · decide +kernel
            · rfl
            · assumption
            (try simp only [List.setIfInBounds_toArray, List.set_cons_zero, List.set_cons_succ])
            refine take_at (i := 41) (d := 108) (v := undef) rfl rfl ?_ ?_ ?_ (fun _ _ _ h => h) (Or.inr ⟨?_, rfl⟩) ?_ ?_
            · kernel_rfl
            · decide +kernel
            · decide +kernel
            · rfl
            · assumption
            (try simp only [List.setIfInBounds_toArray, List.set_cons_zero, List.set_cons_succ])
            refine take_at (i := 42) (d := 109) (v := undef) rfl rfl ?_ ?_ ?_ (fun _ _ _ h => h) (Or.inr ⟨?_, rfl⟩) ?_ ?_
            · kernel_rfl
            · decide +kernel
            · decide +kernel
            · rfl
            · assumption
            (try simp only [List.setIfInBounds_toArray, List.set_cons_zero, List.set_cons_succ])
            refine take_at (i := 43) (d := 110) (v := .bool true) rfl rfl ?_ ?_ ?_ (fun _ _ _ h => h) (Or.inl ⟨?_, ?_⟩) ?_ ?_
            · kernel_rfl
            · decide +kernel
            · decide +kernel
            · rfl
            · (intro w hSw; (try dsimp only at hSw); go_simp; (try with_reducible rfl))
            · assumption
            (try simp only [List.setIfInBounds_toArray, List.set_cons_zero, List.set_cons_succ])
            refine take_at (i := 44) (d := 111) (v := .bool true) rfl rfl ?_ ?_ ?_ (fun _ _ _ h => h) (Or.inl ⟨?_, ?_⟩) ?_ ?_
            · kernel_rfl
            · decide +kernel
            · decide +kernel
            · rfl
            · (intro w hSw; (try dsimp only at hSw); go_simp; (try with_reducible rfl))
            · assumption
            (try simp only [List.setIfInBounds_toArray, List.set_cons_zero, List.set_cons_succ])
            refine take_at (i := 45) (d := 4) (v := .bool true) rfl rfl ?_ ?_ ?_ (fun _ _ _ h => h) (Or.inl ⟨?_, ?_⟩) ?_ ?_
            · kernel_rfl
            · decide +kernel
            · decide +kernel
            · rfl
            · (intro w hSw; (try dsimp only at hSw); go_simp; (try with_reducible rfl))
            · assumption
            (try simp only [List.setIfInBounds_toArray, List.set_cons_zero, List.set_cons_succ])
            refine wpAnyH_done (by kernel_rfl) ?_ _
            refine NoPanic.normal ?_
            go_wp2
            go_ret
            exact ⟨rfl, hupw.trans hupA⟩
          · skip
            have hsg : ((x.tmod y).sign == 0) = false := by rw [beq_eq_false_iff_ne]; intro h; exact hr0 (Int.sign_eq_zero_iff_zero.1 h)
            have hsg2 : ((x.tmod y).sign == x.sign) = true := by rw [tmod_sign hr0]; simp
            clear hr0
            have ka0 : u7_.cell? ⟨ga, 0, none⟩ = some (.bool sa) := hka.cell (i := 0) rfl
            have kb0 : u7_.cell? ⟨ga, 1, none⟩ = some (.slice Aa na ca) := hka.cell (i := 1) rfl
            have ka1 : u7_.cell? ⟨gb, 0, none⟩ = some (.bool sb) := hkb.cell (i := 0) rfl
            have kb1 : u7_.cell? ⟨gb, 1, none⟩ = some (.slice Ab nb cb) := hkb.cell (i := 1) rfl
            have ka2 : u7_.cell? ⟨gq, 0, none⟩ = some (.bool sq) := hkq.cell (i := 0) rfl
            have kb2 : u7_.cell? ⟨gq, 1, none⟩ = some (.slice Aq nq cq) := hkq.cell (i := 1) rfl
            have ka3 : u7_.cell? ⟨gr, 0, none⟩ = some (.bool sr) := hkr.cell (i := 0) rfl
            have kb3 : u7_.cell? ⟨gr, 1, none⟩ = some (.slice Ar nr cr) := hkr.cell (i := 1) rfl
            have ka4 : u7_.cell? ⟨w5_.heap.size, 0, none⟩ = some (.bool sq2) := hkq2.cell (i := 0) rfl
            have kb4 : u7_.cell? ⟨w5_.heap.size, 1, none⟩ = some (.slice Aq2 nq2 cq2) := hkq2.cell (i := 1) rfl
            have ka5 : u7_.cell? ⟨w5_.heap.size + 1, 0, none⟩ = some (.bool sr2) := hkr2.cell (i := 0) rfl
            have kb5 : u7_.cell? ⟨w5_.heap.size + 1, 1, none⟩ = some (.slice Ar2 nr2 cr2) := hkr2.cell (i := 1) rfl
            have ka6 : u7_.cell? ⟨w7_.heap.size, 0, none⟩ = some (.bool sz) := hkz.cell (i := 0) rfl
            have kb6 : u7_.cell? ⟨w7_.heap.size, 1, none⟩ = some (.slice Az nz cz) := hkz.cell (i := 1) rfl
            have hupA : Up u7_ u7_.drew := (Up.refl u7_).drew
            go_region_held3 (fun w' => w'.cell? ⟨ga, 0, none⟩ = some (.bool sa) ∧ w'.cell? ⟨ga, 1, none⟩ = some (.slice Aa na ca) ∧ w'.cell? ⟨gb, 0, none⟩ = some (.bool sb) ∧ w'.cell? ⟨gb, 1, none⟩ = some (.slice Ab nb cb) ∧ w'.cell? ⟨gq, 0, none⟩ = some (.bool sq) ∧ w'.cell? ⟨gq, 1, none⟩ = some (.slice Aq nq cq) ∧ w'.cell? ⟨gr, 0, none⟩ = some (.bool sr) ∧ w'.cell? ⟨gr, 1, none⟩ = some (.slice Ar nr cr) ∧ w'.cell? ⟨w5_.heap.size, 0, none⟩ = some (.bool sq2) ∧ w'.cell? ⟨w5_.heap.size, 1, none⟩ = some (.slice Aq2 nq2 cq2) ∧ w'.cell? ⟨w5_.heap.size + 1, 0, none⟩ = some (.bool sr2) ∧ w'.cell? ⟨w5_.heap.size + 1, 1, none⟩ = some (.slice Ar2 nr2 cr2) ∧ w'.cell? ⟨w7_.heap.size, 0, none⟩ = some (.bool sz) ∧ w'.cell? ⟨w7_.heap.size, 1, none⟩ = some (.slice Az nz cz))
              (exact ⟨hupA.keep ka0, hupA.keep kb0, hupA.keep ka1, hupA.keep kb1, hupA.keep ka2, hupA.keep kb2, hupA.keep ka3, hupA.keep kb3, hupA.keep ka4, hupA.keep kb4, hupA.keep ka5, hupA.keep kb5, hupA.keep ka6, hupA.keep kb6⟩)
              (first
                | (go_at_call_of 13 Aq; refine (equalI 0 0 _ _ (x.tdiv y) _ (hiq.up hupA) (hiq2.up hupA) htq).mono ?_; rintro e wx ⟨rfl, hupx⟩; replace hupA := hupA.trans hupx)
                | (go_at_call_of 13 Ar; refine (equalI 0 0 _ _ (x.tmod y) _ (hir.up hupA) (hir2.up hupA) htr).mono ?_; rintro e wx ⟨rfl, hupx⟩; replace hupA := hupA.trans hupx)
                | (go_at_call_of 13 Az; refine (equalI 0 0 _ _ x _ (hiz.up hupA) (hia.up hupA) hta).mono ?_; rintro e wx ⟨rfl, hupx⟩; replace hupA := hupA.trans hupx)
                | (go_at_call_of 32 Ar; refine (abs_any 0 _ (x.tmod y) _ (hir.up hupA) htr).mono ?_; rintro e wx ⟨vr, rfl, hvr, hupx⟩; replace hupA := hupA.trans hupx)
                | (go_at_call_of 32 Ab; refine (abs_any 0 _ y _ (hib.up hupA) htb).mono ?_; rintro e wy ⟨vb, rfl, hvb, hupy⟩; replace hupA := hupA.trans hupy)
                | (go_at_call 31; refine (cmpLess _ _ x y _ ((hvr.mono (Nat.zero_le _)).up hupy) (hvb.mono (Nat.zero_le _)) hta htb HY0.out).mono ?_; rintro e wx ⟨rfl, hupx⟩; replace hupA := hupA.trans hupx)
                | (go_at_call_of 21 Ar; refine (rsignI 0 _ (x.tmod y) _ (hir.up hupA) htr).mono ?_; rintro e wx ⟨rfl, hupx⟩; replace hupA := hupA.trans hupx)
                | (go_at_call_of 21 Aa; refine (rsignI 0 _ x _ (hia.up hupA) hta).mono ?_; rintro e wx ⟨rfl, hupx⟩; replace hupA := hupA.trans hupx))
            go_wp2
            go_ret
            exact ⟨rfl, hupw.trans hupA⟩

set_option maxRecDepth 100000 in
theorem lifted_integerDivision (os : Os) (started : os.Started) (H : Type) (enc : TypeId × Value → H) :
    ReturnsInHanded {} Try.checked os 7 .any (Rows.integerDivisionSpec.pre6 enc Try.prog Try.f7 Rows.integerDivisionRow.domain false) (Rows.integerDivisionSpec.post enc Try.prog Try.f7 false true false false) := by
  refine returnsInHanded_of_change (C := Try.checked) ownK started (by kernel_rfl) Try.func7
    (ChangeSpec.witness6 (enc := enc) (C := Try.checked) false ⟨#[], #[.agg #[.bool false, .slice none 0 0], .agg #[.bool false, .slice none 0 0]], []⟩ 8 (by kernel_rfl) (by kernel_rfl) (by kernel_rfl) (by kernel_rfl)) ?_
  intro W base args ds gs before hval0 hW hcnd _
  have hval : ∀ (j : Nat) t v, Try.f7.params[j]? = some t → args[j]? = some v → Value.okWide Try.prog W .any base t v := hval0
  have hW' := hW
  obtain ⟨p, q, hA0, hV, rfl, hfz, hnd⟩ := hW
  have hA : DataW.TrodAll enc Try.prog W 0 (fun _ => true) true Try.f7.params.toList args.toList ds p := hA0
  rw [Try.params7] at hA hval
  obtain ⟨v0, vs0, d0, ds0, p0, q0, hargs, rfl, rfl, h0, r0⟩ := trodAll_cons hA
  obtain ⟨v1, vs1, d1, ds1, p1, q1, rfl, rfl, rfl, h1, r1⟩ := trodAll_cons r0
  obtain ⟨rfl, rfl, rfl⟩ := trodAll_nil r1
  obtain rfl : args = #[v0, v1] := by cases args; simp_all
  obtain ⟨rfl, rfl⟩ := trodVars_none hV
  have k0 := h0
  have lt0 : ∀ x ∈ p0, x.block < W.heap.size := by obtain ⟨m, hm⟩ := k0; exact DataW.trod_lt m _ _ _ hm
  have w0 : RawIn W v0 := raw_open Try.underlying37 (by kernel_rfl) (by kernel_rfl) (by kernel_rfl) (by kernel_rfl) (hval 0 37 v0 rfl rfl) h0
  have k1 := h1
  have lt1 : ∀ x ∈ p1, x.block < W.heap.size := by obtain ⟨m, hm⟩ := k1; exact DataW.trod_lt m _ _ _ hm
  have w1 : RawIn W v1 := raw_open Try.underlying37 (by kernel_rfl) (by kernel_rfl) (by kernel_rfl) (by kernel_rfl) (hval 1 37 v1 rfl rfl) h1
  clear hA0 hval0
  refine (divisionW v0 v1 W w0 w1).mono fun e W' ⟨he, bel0⟩ => ?_
  have bel : Below W.heap.size W W' := bel0
  subst he
  exact ⟨_, rfl, _, _, _, [], _, [], hW', trodAll_mk1 (shut_bool Try.underlying4 _), (trodAll_cons_mk (Below.trod laidOut (by kernel_rfl) (of_decide_eq_true (by kernel_rfl)) k0 bel lt0) (trodAll_cons_mk (Below.trod laidOut (by kernel_rfl) (of_decide_eq_true (by kernel_rfl)) k1 bel lt1) trodAll_mk0)), rfl, bel.frame _, fun h => by cases h⟩

theorem over_integerDivision : Rows.integerDivisionRow.holds Try.pinned (OpenSpec.ofChange Rows.integerDivisionSpec) :=
  OpenClaim.holds_of_wide 7 Try.f7 rfl rfl rfl rfl rfl rfl rfl ⟨rfl, rfl, rfl, rfl, rfl⟩ rfl rfl rfl rfl rfl (by kernel_rfl) Try.func7 (by kernel_rfl)
    (of_decide_eq_true (by kernel_rfl)) (by unfold Func.isWrapper; first | (rw [if_pos (by decide +kernel)]; kernel_rfl) | (rw [if_neg (by decide +kernel)]; exact ⟨rfl, rfl⟩))
    (fun os started H enc _ => lifted_integerDivision os started H enc)

theorem integerDivision_holds : Rows.IntegerDivisionSaid := over_integerDivision
end Go.Proofs.Ytnelnobcecnhlaa
