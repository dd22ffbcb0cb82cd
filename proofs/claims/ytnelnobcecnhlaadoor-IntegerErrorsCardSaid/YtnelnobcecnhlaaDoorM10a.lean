/- For every two raw integers that are not both valid, all functions return ErrInvalid and zero (asked up to 60 limbs, as the law does). -/
import Derived.Test.YtnelnobcecnhlaaDoorV5
import Derived.Test.YtnelnobcecnhlaaDoorH1
namespace Go.Proofs.YtnelnobcecnhlaaDoor
open Go.RowKit

open Go.ChangeShapes Go.WideShapes Go.ChangeAt
set_option maxRecDepth 1000000 in
set_option maxHeartbeats 16000000 in
theorem errA (s t : Bool) (A C : Option Addr) (n c m d : Nat) (ls ks : List Nat) (w : World) (hl : Lim w A ls) (hw : W32 ls) (Hn : Hid (n = ls.length)) (hc : n ≤ c) (hm : Lim w C ks) (hw' : W32 ks) (Hm : Hid (m = ks.length)) (hd : m ≤ d) (hl60 : ls.length ≤ 60) (hk60 : ks.length ≤ 60) (HVa : Hid (rawValid s ls = false)) : Calls Tryd.prog 5 #[.agg #[.bool s, .slice A n c], .agg #[.bool t, .slice C m d]] w fun e w' => e = .returned (.bool true) ∧ Up w w' := by
  have HB : Hid (rawValid s ls = false ∨ rawValid t ks = false) := .inl HVa.out
  obtain ⟨w0, hw0⟩ : ∃ w0, w0 = ((w.alloc (.cells #[.bool s, .slice A n c] 25)).alloc (.cells #[.bool t, .slice C m d] 25)) := ⟨_, rfl⟩
  have hb1 : Bk w0 (w.heap.size) 25 #[.bool s, .slice A n c] := by
    have := (Bk.new w 25 #[.bool s, .slice A n c]).alloc (.cells #[.bool t, .slice C m d] 25)
    rw [hw0]; simpa using this
  have hb2 : Bk w0 (w.heap.size + 1) 25 #[.bool t, .slice C m d] := by
    have := Bk.new (w.alloc (.cells #[.bool s, .slice A n c] 25)) 25 #[.bool t, .slice C m d]
    rw [hw0]; simpa using this
  have hup0 : Up w w0 := by rw [hw0]; exact ((Up.refl w).alloc _).alloc _
  have hsz0 : w.heap.size + 2 ≤ w0.heap.size := by rw [hw0]; simp
  have Hw0 := hide hw0
  clear hw0
  have e1a := hb1.cell (i := 0) rfl
  have e1b := hb1.cell (i := 1) rfl
  have e2a := hb2.cell (i := 0) rfl
  have e2b := hb2.cell (i := 1) rfl
  go_enter Tryd.func5, Tryd.ntmps5
  have hupw := hup0
  have hlen : n ≤ 60 := by rw [Hn.out]; exact hl60
  have hlen2 : m ≤ 60 := by rw [Hm.out]; exact hk60
  have q0 : Rw w0 (.agg #[.bool s, .slice A n c]) s ls := ⟨⟨A, n, c, rfl, hl.up hup0, Hn, hc⟩, hw, hl60⟩
  have q1 : Rw w0 (.agg #[.bool t, .slice C m d]) t ks := ⟨⟨C, m, d, rfl, hm.up hup0, Hm, hd⟩, hw', hk60⟩
  clear hl hm hw hw' hl60 hk60 hc hd
  go_wp2_with fail
  rw [← Hw0.out]
  clear Hw0 hup0
  refine (awake_any _).mono ?_
  rintro e w1_ ⟨rfl, hup⟩
  have hb1 := hb1.up hup
  have hb2 := hb2.up hup
  have q0 := q0.up hup
  have q1 := q1.up hup
  have hupw := hupw.trans hup
  clear hup
  have hb1a := hb1.cell (i := 0) rfl
  have hb1b := hb1.cell (i := 1) rfl
  have hb1l := hb1.lt
  have hb2a := hb2.cell (i := 0) rfl
  have hb2b := hb2.cell (i := 1) rfl
  have hb2l := hb2.lt
  go_wp2_with fail
  clear hb1a hb1b hb1l hb2a hb2b hb2l
  refine (few_any s A c n 60 _).mono ?_
  rintro e w2_ ⟨rfl, hup⟩
  rw [show decide (((n : Nat) : Int) ≤ 60) = true from decide_eq_true (by omega)]
  have hb1 := hb1.up hup
  have hb2 := hb2.up hup
  have q0 := q0.up hup
  have q1 := q1.up hup
  have hupw := hupw.trans hup
  clear hup
  have hb1a := hb1.cell (i := 0) rfl
  have hb1b := hb1.cell (i := 1) rfl
  have hb1l := hb1.lt
  have hb2a := hb2.cell (i := 0) rfl
  have hb2b := hb2.cell (i := 1) rfl
  have hb2l := hb2.lt
  go_wp2_with fail
  clear hb1a hb1b hb1l hb2a hb2b hb2l
  refine (few_any t C d m 60 _).mono ?_
  rintro e w3_ ⟨rfl, hup⟩
  rw [show decide (((m : Nat) : Int) ≤ 60) = true from decide_eq_true (by omega)]
  have hb1 := hb1.up hup
  have hb2 := hb2.up hup
  have q0 := q0.up hup
  have q1 := q1.up hup
  have hupw := hupw.trans hup
  clear hup
  have hb1a := hb1.cell (i := 0) rfl
  have hb1b := hb1.cell (i := 1) rfl
  have hb1l := hb1.lt
  have hb2a := hb2.cell (i := 0) rfl
  have hb2b := hb2.cell (i := 1) rfl
  have hb2l := hb2.lt
  go_wp2_with fail
  clear hb1a hb1b hb1l hb2a hb2b hb2l
  refine (rvalidZ _ s ls false _ HVa q0).mono ?_
  rintro e w4_ ⟨rfl, hup⟩
  have hb1 := hb1.up hup
  have hb2 := hb2.up hup
  have q0 := q0.up hup
  have q1 := q1.up hup
  have hupw := hupw.trans hup
  clear hup
  have hb1a := hb1.cell (i := 0) rfl
  have hb1b := hb1.cell (i := 1) rfl
  have hb1l := hb1.lt
  have hb2a := hb2.cell (i := 0) rfl
  have hb2b := hb2.cell (i := 1) rfl
  have hb2l := hb2.lt
  go_wp2_with fail
  clear hb1a hb1b hb1l hb2a hb2b hb2l
  obtain ⟨u5_, hu5_⟩ : ∃ x, x = w4_.alloc (.cells #[.bool false, .slice none 0 0] 25) := ⟨_, rfl⟩
  have hkz : Bk u5_ w4_.heap.size 25 #[.bool false, .slice none 0 0] := by rw [hu5_]; exact Bk.new w4_ _ _
  have hup : Up w4_ u5_ := by rw [hu5_]; exact (Up.refl w4_).alloc _
  rw [← hu5_]
  clear hu5_
  have hb1 := hb1.up hup
  have hb2 := hb2.up hup
  have q0 := q0.up hup
  have q1 := q1.up hup
  have hupw := hupw.trans hup
  have hiz : IsInt 0 u5_ (.agg #[.bool false, .slice none 0 0]) 0 := IsInt.zero 0 _
  clear hup
  refine region_inv (fun l a W => ∃ (b0 b1 b2 b3 b4 b5 b6 b7 b8 b9 b10 : Bool) (x6_0 x6_1 x6_2 x6_3 x6_4 x6_5 x6_6 x6_7 x6_8 x6_10 : Value), l = #[b0, b1, b2, b3, b4, b5, b6, b7, b8, b9, b10] ∧ a = { tmps := #[.agg #[.bool s, .slice A n c], .agg #[.bool t, .slice C m d], .pointer (some ⟨w.heap.size, 0, none⟩), .pointer (some ⟨w.heap.size + 1, 0, none⟩), .bool false, .pointer (some ⟨w4_.heap.size, 0, none⟩), x6_8, x6_10, undef, undef, undef, undef, undef, undef, undef, undef, undef, undef, undef, undef, undef, undef, undef, undef, .bool true, .bool false, .bool false, .agg #[.bool s, .slice A n c], .bool true, .bool false, .bool false, .bool false, .agg #[.bool t, .slice C m d], .bool true, .bool false, .bool false, .bool false, .agg #[.bool s, .slice A n c], .bool false, .bool false, undef, undef, .bool false, .bool false, undef, .agg #[.bool false, .slice none 0 0], x6_5, x6_0, x6_1, x6_2, x6_3, x6_4, x6_6, x6_7, undef, undef, undef, undef, undef, undef, undef, undef, undef, undef, undef, undef, undef, undef, undef, undef, undef, undef, undef, undef, undef, undef, undef, undef, undef, undef, undef, undef, undef, undef, undef, undef, undef, undef, undef, undef, undef, undef, undef, undef, undef, undef, undef, undef, undef, undef, undef, undef, undef, undef, undef, undef, undef, undef, undef, undef, undef, undef, undef, undef, undef, undef, undef, undef, undef, undef, undef, undef, undef, undef, undef, undef, undef, undef, undef, undef, undef, undef, undef, undef, undef, undef, undef, undef, undef, undef, undef, undef, undef, undef, undef, undef, undef, undef, undef, undef, undef, undef, undef, undef, undef, undef, undef, undef, undef, undef], defers := [] } ∧ Up u5_ W ∧ (b0 = true → Rw W x6_0 s ls) ∧ (b1 = true → Rw W x6_1 s ls) ∧ (b2 = true → Rw W x6_2 t ks) ∧ (b3 = true → Rw W x6_3 t ks) ∧ (b4 = true → ∃ v0 : Value, x6_4 = .tuple #[v0, .int .i64 1] ∧ IsInt 0 W v0 (0)) ∧ (b5 = true → ∃ v0 : Value, x6_5 = .tuple #[v0, .int .i64 1] ∧ IsInt 0 W v0 (0)) ∧ (b6 = true → IsInt 0 W x6_6 (0)) ∧ (b7 = true → x6_7 = .int .i64 1) ∧ (b8 = true → Box (u5_.heap.size) W x6_8 b9 x6_6) ∧ (b9 = true → b8 = true ∧ b6 = true) ∧ (b10 = true → x6_10 = .int .i64 1)) (by kernel_rfl) (by kernel_rfl) ?hs ?h0 ?hstep ?hQ
  case hs => rintro l a W ⟨b0, b1, b2, b3, b4, b5, b6, b7, b8, b9, b10, x6_0, x6_1, x6_2, x6_3, x6_4, x6_5, x6_6, x6_7, x6_8, x6_10, rfl, rfl, hup, hF0, hF1, hF2, hF3, hF4, hF5, hF6, hF7, hF8, hF9, hF10⟩; rfl
  case h0 => exact ⟨false, false, false, false, false, false, false, false, false, false, false, undef, undef, undef, undef, undef, undef, undef, undef, undef, undef, rfl, rfl, (Up.refl u5_).drew, (fun h => by cases h), (fun h => by cases h), (fun h => by cases h), (fun h => by cases h), (fun h => by cases h), (fun h => by cases h), (fun h => by cases h), (fun h => by cases h), (fun h => by cases h), (fun h => by cases h), (fun h => by cases h)⟩
  case hstep =>
    rintro l a W ⟨b0, b1, b2, b3, b4, b5, b6, b7, b8, b9, b10, x6_0, x6_1, x6_2, x6_3, x6_4, x6_5, x6_6, x6_7, x6_8, x6_10, rfl, rfl, hup, hF0, hF1, hF2, hF3, hF4, hF5, hF6, hF7, hF8, hF9, hF10⟩ i hi
    have hlt : i < 11 := ready_lt hi
    have HF0 := hide hF0
    have HF1 := hide hF1
    have HF2 := hide hF2
    have HF3 := hide hF3
    have HF4 := hide hF4
    have HF5 := hide hF5
    have HF6 := hide hF6
    have HF7 := hide hF7
    have HF8 := hide hF8
    have HF9 := hide hF9
    have HF10 := hide hF10
    clear hF0 hF1 hF2 hF3 hF4 hF5 hF6 hF7 hF8 hF9 hF10
    have hcase : i = 0 ∨ i = 1 ∨ i = 2 ∨ i = 3 ∨ i = 4 ∨ i = 5 ∨ i = 6 ∨ i = 7 ∨ i = 8 ∨ i = 9 ∨ i = 10 := by omega
    clear hlt
    rcases hcase with rfl | rfl | rfl | rfl | rfl | rfl | rfl | rfl | rfl | rfl | rfl
    · skip
      have k0 := hb1.up hup
      have k1 := k0.cell (i := 0) rfl
      have k2 := k0.cell (i := 1) rfl
      clear hi
      refine wpOp_step rfl (fun K hK => ?_)
      go_simp
      refine hK _ _ ?_
      clear hK K
      exact ⟨true, b1, b2, b3, b4, b5, b6, b7, b8, b9, b10, .agg #[.bool s, .slice A n c], x6_1, x6_2, x6_3, x6_4, x6_5, x6_6, x6_7, x6_8, x6_10, rfl, rfl, hup, (fun _ => q0.up hup), HF1.out, HF2.out, HF3.out, HF4.out, HF5.out, HF6.out, HF7.out, HF8.out, HF9.out, HF10.out⟩
    · skip
      have hb : b0 = true := getB (l := [b0, b1, b2, b3, b4, b5, b6, b7, b8, b9, b10]) (ready_dep hi rfl 0 (by kernel_rfl)) rfl
      have hx := hide (HF0.out hb)
      clear hb
      clear hi
      refine wpOp_step rfl (fun K hK => ?_)
      go_simp
      refine (ownR _ _ _ _ hx.out).mono ?_
      rintro e w1 ⟨v1, rfl, hv1, hup1⟩
      go_wp2_with fail
      exact ⟨b0, true, b2, b3, b4, b5, b6, b7, b8, b9, b10, x6_0, v1, x6_2, x6_3, x6_4, x6_5, x6_6, x6_7, x6_8, x6_10, rfl, rfl, hup.trans hup1, (fun h => (HF0.out h).up hup1), (fun _ => hv1), (fun h => (HF2.out h).up hup1), (fun h => (HF3.out h).up hup1), (fun h => by obtain ⟨q0, rq, r0⟩ := HF4.out h; exact ⟨q0, rq, r0.up hup1⟩), (fun h => by obtain ⟨q0, rq, r0⟩ := HF5.out h; exact ⟨q0, rq, r0.up hup1⟩), (fun h => (HF6.out h).up hup1), HF7.out, (fun h => (HF8.out h).up hup1), HF9.out, HF10.out⟩
    · skip
      have k0 := hb2.up hup
      have k1 := k0.cell (i := 0) rfl
      have k2 := k0.cell (i := 1) rfl
      clear hi
      refine wpOp_step rfl (fun K hK => ?_)
      go_simp
      refine hK _ _ ?_
      clear hK K
      exact ⟨b0, b1, true, b3, b4, b5, b6, b7, b8, b9, b10, x6_0, x6_1, .agg #[.bool t, .slice C m d], x6_3, x6_4, x6_5, x6_6, x6_7, x6_8, x6_10, rfl, rfl, hup, HF0.out, HF1.out, (fun _ => q1.up hup), HF3.out, HF4.out, HF5.out, HF6.out, HF7.out, HF8.out, HF9.out, HF10.out⟩
    · skip
      have hb : b2 = true := getB (l := [b0, b1, b2, b3, b4, b5, b6, b7, b8, b9, b10]) (ready_dep hi rfl 2 (by kernel_rfl)) rfl
      have hx := hide (HF2.out hb)
      clear hb
      clear hi
      refine wpOp_step rfl (fun K hK => ?_)
      go_simp
      refine (ownR _ _ _ _ hx.out).mono ?_
      rintro e w1 ⟨v1, rfl, hv1, hup1⟩
      go_wp2_with fail
      exact ⟨b0, b1, b2, true, b4, b5, b6, b7, b8, b9, b10, x6_0, x6_1, x6_2, v1, x6_4, x6_5, x6_6, x6_7, x6_8, x6_10, rfl, rfl, hup.trans hup1, (fun h => (HF0.out h).up hup1), (fun h => (HF1.out h).up hup1), (fun h => (HF2.out h).up hup1), (fun _ => hv1), (fun h => by obtain ⟨q0, rq, r0⟩ := HF4.out h; exact ⟨q0, rq, r0.up hup1⟩), (fun h => by obtain ⟨q0, rq, r0⟩ := HF5.out h; exact ⟨q0, rq, r0.up hup1⟩), (fun h => (HF6.out h).up hup1), HF7.out, (fun h => (HF8.out h).up hup1), HF9.out, HF10.out⟩
    · skip
      have hb0q : b1 = true := getB (l := [b0, b1, b2, b3, b4, b5, b6, b7, b8, b9, b10]) (ready_dep hi rfl 1 (by kernel_rfl)) rfl
      have hx0 := hide (HF1.out hb0q)
      clear hb0q
      have hb1q : b3 = true := getB (l := [b0, b1, b2, b3, b4, b5, b6, b7, b8, b9, b10]) (ready_dep hi rfl 3 (by kernel_rfl)) rfl
      have hx1 := hide (HF3.out hb1q)
      clear hb1q
      clear hi
      refine wpOp_step rfl (fun K hK => ?_)
      go_simp
      refine (addZ _ _ s t ls ks _ HB hx0.out hx1.out).mono ?_
      rintro e w1 ⟨v0, rfl, hv0, hup1⟩
      go_wp2_with fail
      exact ⟨b0, b1, b2, b3, true, b5, b6, b7, b8, b9, b10, x6_0, x6_1, x6_2, x6_3, .tuple #[v0, .int .i64 1], x6_5, x6_6, x6_7, x6_8, x6_10, rfl, rfl, hup.trans hup1, (fun h => (HF0.out h).up hup1), (fun h => (HF1.out h).up hup1), (fun h => (HF2.out h).up hup1), (fun h => (HF3.out h).up hup1), (fun _ => ⟨v0, rfl, hv0.mono (Nat.zero_le _)⟩), (fun h => by obtain ⟨q0, rq, r0⟩ := HF5.out h; exact ⟨q0, rq, r0.up hup1⟩), (fun h => (HF6.out h).up hup1), HF7.out, (fun h => (HF8.out h).up hup1), HF9.out, HF10.out⟩
    · skip
      have hb : b4 = true := getB (l := [b0, b1, b2, b3, b4, b5, b6, b7, b8, b9, b10]) (ready_dep hi rfl 4 (by kernel_rfl)) rfl
      have hx := hide (HF4.out hb)
      clear hb
      clear hi
      refine wpOp_step rfl (fun K hK => ?_)
      go_simp
      refine hK _ _ ?_
      clear hK K
      exact ⟨b0, b1, b2, b3, b4, true, b6, b7, b8, b9, b10, x6_0, x6_1, x6_2, x6_3, x6_4, x6_4, x6_6, x6_7, x6_8, x6_10, rfl, rfl, hup, HF0.out, HF1.out, HF2.out, HF3.out, HF4.out, (fun _ => hx.out), HF6.out, HF7.out, HF8.out, HF9.out, HF10.out⟩
    · skip
      have hb : b5 = true := getB (l := [b0, b1, b2, b3, b4, b5, b6, b7, b8, b9, b10]) (ready_dep hi rfl 5 (by kernel_rfl)) rfl
      have Hb := hide hb
      obtain ⟨v0, hxe, hv0⟩ := HF5.out hb
      clear hb
      subst hxe
      have hn := ready_not hi
      have hst9 : b9 = false := by
        cases e : b9 with
        | false => rfl
        | true => have h5 := (HF9.out e).2; rw [h5] at hn; cases hn
      have Hst9 := hide hst9
      clear hst9
      clear hn
      clear hi
      refine wpOp_step rfl (fun K hK => ?_)
      go_simp
      refine hK _ _ ?_
      clear hK K
      exact ⟨b0, b1, b2, b3, b4, b5, true, b7, b8, b9, b10, x6_0, x6_1, x6_2, x6_3, x6_4, .tuple #[v0, .int .i64 1], v0, x6_7, x6_8, x6_10, rfl, rfl, hup, HF0.out, HF1.out, HF2.out, HF3.out, HF4.out, HF5.out, (fun _ => hv0), HF7.out, (fun h => by rw [Hst9.out] at *; obtain ⟨g, s, A, n, c, h1, h2, h3, _⟩ := HF8.out h; exact ⟨g, s, A, n, c, h1, h2, h3.up (Up.refl _), fun h => by cases h⟩), (fun h => ⟨(HF9.out h).1, rfl⟩), HF10.out⟩
    · skip
      have hb : b5 = true := getB (l := [b0, b1, b2, b3, b4, b5, b6, b7, b8, b9, b10]) (ready_dep hi rfl 5 (by kernel_rfl)) rfl
      have Hb := hide hb
      obtain ⟨v0, hxe, hv0⟩ := HF5.out hb
      clear hb
      subst hxe
      clear hi
      refine wpOp_step rfl (fun K hK => ?_)
      go_simp
      refine hK _ _ ?_
      clear hK K
      exact ⟨b0, b1, b2, b3, b4, b5, b6, true, b8, b9, b10, x6_0, x6_1, x6_2, x6_3, x6_4, .tuple #[v0, .int .i64 1], x6_6, .int .i64 1, x6_8, x6_10, rfl, rfl, hup, HF0.out, HF1.out, HF2.out, HF3.out, HF4.out, HF5.out, HF6.out, (fun _ => rfl), HF8.out, HF9.out, HF10.out⟩
    · skip
      have hn := ready_not hi
      have hst9 : b9 = false := by
        cases e : b9 with
        | false => rfl
        | true => have h5 := (HF9.out e).1; rw [h5] at hn; cases hn
      have Hst9 := hide hst9
      clear hst9
      clear hn
      clear hi
      have hsz := hup.size
      have hupA := (Up.refl W).alloc (.cells #[.bool false, .slice none 0 0] 25)
      refine wpOp_step rfl (fun K hK => ?_)
      go_simp
      refine hK _ _ ?_
      clear hK K
      exact ⟨b0, b1, b2, b3, b4, b5, b6, b7, true, b9, b10, x6_0, x6_1, x6_2, x6_3, x6_4, x6_5, x6_6, x6_7, .pointer (some ⟨W.heap.size, 0, none⟩), x6_10, rfl, rfl, hup.trans hupA, (fun h => (HF0.out h).up hupA), (fun h => (HF1.out h).up hupA), (fun h => (HF2.out h).up hupA), (fun h => (HF3.out h).up hupA), (fun h => by obtain ⟨q0, rq, r0⟩ := HF4.out h; exact ⟨q0, rq, r0.up hupA⟩), (fun h => by obtain ⟨q0, rq, r0⟩ := HF5.out h; exact ⟨q0, rq, r0.up hupA⟩), (fun h => (HF6.out h).up hupA), HF7.out, (fun _ => by rw [Hst9.out]; exact Box.new _ W _ hsz), (fun h => ⟨rfl, (HF9.out h).2⟩), HF10.out⟩
    · skip
      have hb2 : b8 = true := getB (l := [b0, b1, b2, b3, b4, b5, b6, b7, b8, b9, b10]) (ready_dep hi rfl 8 (by kernel_rfl)) rfl
      have hb1 : b6 = true := getB (l := [b0, b1, b2, b3, b4, b5, b6, b7, b8, b9, b10]) (ready_dep hi rfl 6 (by kernel_rfl)) rfl
      clear hi
      obtain ⟨s9, A9, n9, c9, hxc⟩ := (HF6.out hb1).agg
      subst hxc
      obtain ⟨g, s8, A8, n8, c8, hxb, hgB, hbk, _⟩ := HF8.out hb2
      subst hxb
      have f1 := hbk.cell (i := 0) rfl
      have f2 := hbk.cell (i := 1) rfl
      have f3 := hbk.frozen 0
      have f4 := hbk.frozen 1
      have Hb1 := hide hb1
      have Hb2 := hide hb2
      have hsz := hup.size
      clear hb1 hb2
      refine wpOp_step rfl (fun K hK => ?_)
      go_simp
      refine hK _ _ ?_
      clear hK K
      exact ⟨b0, b1, b2, b3, b4, b5, b6, b7, b8, true, b10, x6_0, x6_1, x6_2, x6_3, x6_4, x6_5, .agg #[.bool s9, .slice A9 n9 c9], x6_7, .pointer (some ⟨g, 0, none⟩), x6_10, rfl, rfl, hup.two (g := g) hgB _ _, (fun h => (HF0.out h).boxed hbk _ _), (fun h => (HF1.out h).boxed hbk _ _), (fun h => (HF2.out h).boxed hbk _ _), (fun h => (HF3.out h).boxed hbk _ _), (fun h => by obtain ⟨q0, rq, r0⟩ := HF4.out h; exact ⟨q0, rq, r0.boxed hbk _ _⟩), (fun h => by obtain ⟨q0, rq, r0⟩ := HF5.out h; exact ⟨q0, rq, r0.boxed hbk _ _⟩), (fun h => (HF6.out h).boxed hbk _ _), HF7.out, (fun _ => hbk.fill hgB), (fun _ => ⟨Hb2.out, Hb1.out⟩), HF10.out⟩
    · skip
      have hb : b7 = true := getB (l := [b0, b1, b2, b3, b4, b5, b6, b7, b8, b9, b10]) (ready_dep hi rfl 7 (by kernel_rfl)) rfl
      have hx := hide (HF7.out hb)
      clear hb
      clear hi
      refine wpOp_step rfl (fun K hK => ?_)
      go_simp
      refine hK _ _ ?_
      clear hK K
      exact ⟨b0, b1, b2, b3, b4, b5, b6, b7, b8, b9, true, x6_0, x6_1, x6_2, x6_3, x6_4, x6_5, x6_6, x6_7, x6_8, x6_7, rfl, rfl, hup, HF0.out, HF1.out, HF2.out, HF3.out, HF4.out, HF5.out, HF6.out, HF7.out, HF8.out, HF9.out, (fun _ => hx.out)⟩
  case hQ =>
    rintro l a W6_ ⟨b0, b1, b2, b3, b4, b5, b6, b7, b8, b9, b10, x6_0, x6_1, x6_2, x6_3, x6_4, x6_5, x6_6, x6_7, x6_8, x6_10, rfl, rfl, hup, hF0, hF1, hF2, hF3, hF4, hF5, hF6, hF7, hF8, hF9, hF10⟩ hall
    have hb0 : b0 = true := getB (l := [b0, b1, b2, b3, b4, b5, b6, b7, b8, b9, b10]) (hall 0 (by decide)) rfl
    have hb1 : b1 = true := getB (l := [b0, b1, b2, b3, b4, b5, b6, b7, b8, b9, b10]) (hall 1 (by decide)) rfl
    have hb2 : b2 = true := getB (l := [b0, b1, b2, b3, b4, b5, b6, b7, b8, b9, b10]) (hall 2 (by decide)) rfl
    have hb3 : b3 = true := getB (l := [b0, b1, b2, b3, b4, b5, b6, b7, b8, b9, b10]) (hall 3 (by decide)) rfl
    have hb4 : b4 = true := getB (l := [b0, b1, b2, b3, b4, b5, b6, b7, b8, b9, b10]) (hall 4 (by decide)) rfl
    have hb5 : b5 = true := getB (l := [b0, b1, b2, b3, b4, b5, b6, b7, b8, b9, b10]) (hall 5 (by decide)) rfl
    have hb6 : b6 = true := getB (l := [b0, b1, b2, b3, b4, b5, b6, b7, b8, b9, b10]) (hall 6 (by decide)) rfl
    have hb7 : b7 = true := getB (l := [b0, b1, b2, b3, b4, b5, b6, b7, b8, b9, b10]) (hall 7 (by decide)) rfl
    have hb8 : b8 = true := getB (l := [b0, b1, b2, b3, b4, b5, b6, b7, b8, b9, b10]) (hall 8 (by decide)) rfl
    have hb9 : b9 = true := getB (l := [b0, b1, b2, b3, b4, b5, b6, b7, b8, b9, b10]) (hall 9 (by decide)) rfl
    have hb10 : b10 = true := getB (l := [b0, b1, b2, b3, b4, b5, b6, b7, b8, b9, b10]) (hall 10 (by decide)) rfl
    subst hb0 hb1 hb2 hb3 hb4 hb5 hb6 hb7 hb8 hb9 hb10
    clear hall
    have m0 := hF0 rfl
    have m1 := hF1 rfl
    have m2 := hF2 rfl
    have m3 := hF3 rfl
    have m4 := hF4 rfl
    have m5 := hF5 rfl
    have m6 := hF6 rfl
    have m7 := hF7 rfl
    have m8 := hF8 rfl
    have m10 := hF10 rfl
    clear hF0 hF1 hF2 hF3 hF4 hF5 hF6 hF7 hF8 hF9 hF10
    obtain ⟨gr1, sr1, Ar1, nr1, cr1, rfl, hgr1, hkr1, her1⟩ := m8
    obtain rfl := her1 rfl
    clear her1 hgr1
    have hir1 := m6
    obtain rfl := m7
    obtain rfl := m10
    clear m0 m1 m2 m3 m4 m5 m6
    have hb1 := hb1.up hup
    have hb2 := hb2.up hup
    have hkz := hkz.up hup
    have q0 := q0.up hup
    have q1 := q1.up hup
    have hiz := hiz.up hup
    have hupw := hupw.trans hup
    clear hup
    have hb1a := hb1.cell (i := 0) rfl
    have hb1b := hb1.cell (i := 1) rfl
    have hb1l := hb1.lt
    have hb2a := hb2.cell (i := 0) rfl
    have hb2b := hb2.cell (i := 1) rfl
    have hb2l := hb2.lt
    have hkza := hkz.cell (i := 0) rfl
    have hkzb := hkz.cell (i := 1) rfl
    have hkzl := hkz.lt
    have hkr1a := hkr1.cell (i := 0) rfl
    have hkr1b := hkr1.cell (i := 1) rfl
    have hkr1l := hkr1.lt
    go_wp2_with fail
    clear hb1a hb1b hb1l hb2a hb2b hb2l hkza hkzb hkzl hkr1a hkr1b hkr1l
    refine region_inv (fun l a W => ∃ (b0 b1 b2 b3 b4 b5 b6 b7 b8 b9 b10 : Bool) (x7_0 x7_1 x7_2 x7_3 x7_4 x7_5 x7_6 x7_7 x7_8 x7_10 : Value), l = #[b0, b1, b2, b3, b4, b5, b6, b7, b8, b9, b10] ∧ a = { tmps := #[.agg #[.bool s, .slice A n c], .agg #[.bool t, .slice C m d], .pointer (some ⟨w.heap.size, 0, none⟩), .pointer (some ⟨w.heap.size + 1, 0, none⟩), .bool false, .pointer (some ⟨w4_.heap.size, 0, none⟩), .pointer (some ⟨gr1, 0, none⟩), .int .i64 1, x7_8, x7_10, undef, undef, undef, undef, undef, undef, undef, undef, undef, undef, undef, undef, undef, undef, .bool true, .bool false, .bool false, .agg #[.bool s, .slice A n c], .bool true, .bool false, .bool false, .bool false, .agg #[.bool t, .slice C m d], .bool true, .bool false, .bool false, .bool false, .agg #[.bool s, .slice A n c], .bool false, .bool false, undef, undef, .bool false, .bool false, undef, .agg #[.bool false, .slice none 0 0], x6_5, x6_0, x6_1, x6_2, x6_3, x6_4, .agg #[.bool sr1, .slice Ar1 nr1 cr1], .int .i64 1, x7_5, x7_0, x7_1, x7_2, x7_3, x7_4, x7_6, x7_7, undef, undef, undef, undef, undef, undef, undef, undef, undef, undef, undef, undef, undef, undef, undef, undef, undef, undef, undef, undef, undef, undef, undef, undef, undef, undef, undef, undef, undef, undef, undef, undef, undef, undef, undef, undef, undef, undef, undef, undef, undef, undef, undef, undef, undef, undef, undef, undef, undef, undef, undef, undef, undef, undef, undef, undef, undef, undef, undef, undef, undef, undef, undef, undef, undef, undef, undef, undef, undef, undef, undef, undef, undef, undef, undef, undef, undef, undef, undef, undef, undef, undef, undef, undef, undef, undef, undef, undef, undef, undef, undef, undef, undef, undef, undef, undef, undef, undef], defers := [] } ∧ Up W6_ W ∧ (b0 = true → Rw W x7_0 s ls) ∧ (b1 = true → Rw W x7_1 s ls) ∧ (b2 = true → Rw W x7_2 t ks) ∧ (b3 = true → Rw W x7_3 t ks) ∧ (b4 = true → ∃ v0 : Value, x7_4 = .tuple #[v0, .int .i64 1] ∧ IsInt 0 W v0 (0)) ∧ (b5 = true → ∃ v0 : Value, x7_5 = .tuple #[v0, .int .i64 1] ∧ IsInt 0 W v0 (0)) ∧ (b6 = true → IsInt 0 W x7_6 (0)) ∧ (b7 = true → x7_7 = .int .i64 1) ∧ (b8 = true → Box (W6_.heap.size) W x7_8 b9 x7_6) ∧ (b9 = true → b8 = true ∧ b6 = true) ∧ (b10 = true → x7_10 = .int .i64 1)) (by kernel_rfl) (by kernel_rfl) ?hs ?h0 ?hstep ?hQ
    case hs => rintro l a W ⟨b0, b1, b2, b3, b4, b5, b6, b7, b8, b9, b10, x7_0, x7_1, x7_2, x7_3, x7_4, x7_5, x7_6, x7_7, x7_8, x7_10, rfl, rfl, hup, hF0, hF1, hF2, hF3, hF4, hF5, hF6, hF7, hF8, hF9, hF10⟩; rfl
    case h0 => exact ⟨false, false, false, false, false, false, false, false, false, false, false, undef, undef, undef, undef, undef, undef, undef, undef, undef, undef, rfl, rfl, (Up.refl W6_).drew, (fun h => by cases h), (fun h => by cases h), (fun h => by cases h), (fun h => by cases h), (fun h => by cases h), (fun h => by cases h), (fun h => by cases h), (fun h => by cases h), (fun h => by cases h), (fun h => by cases h), (fun h => by cases h)⟩
    case hstep =>
      rintro l a W ⟨b0, b1, b2, b3, b4, b5, b6, b7, b8, b9, b10, x7_0, x7_1, x7_2, x7_3, x7_4, x7_5, x7_6, x7_7, x7_8, x7_10, rfl, rfl, hup, hF0, hF1, hF2, hF3, hF4, hF5, hF6, hF7, hF8, hF9, hF10⟩ i hi
      have hlt : i < 11 := ready_lt hi
      have HF0 := hide hF0
      have HF1 := hide hF1
      have HF2 := hide hF2
      have HF3 := hide hF3
      have HF4 := hide hF4
      have HF5 := hide hF5
      have HF6 := hide hF6
      have HF7 := hide hF7
      have HF8 := hide hF8
      have HF9 := hide hF9
      have HF10 := hide hF10
      clear hF0 hF1 hF2 hF3 hF4 hF5 hF6 hF7 hF8 hF9 hF10
      have hcase : i = 0 ∨ i = 1 ∨ i = 2 ∨ i = 3 ∨ i = 4 ∨ i = 5 ∨ i = 6 ∨ i = 7 ∨ i = 8 ∨ i = 9 ∨ i = 10 := by omega
      clear hlt
      rcases hcase with rfl | rfl | rfl | rfl | rfl | rfl | rfl | rfl | rfl | rfl | rfl
      · skip
        have k0 := hb1.up hup
        have k1 := k0.cell (i := 0) rfl
        have k2 := k0.cell (i := 1) rfl
        clear hi
        refine wpOp_step rfl (fun K hK => ?_)
        go_simp
        refine hK _ _ ?_
        clear hK K
        exact ⟨true, b1, b2, b3, b4, b5, b6, b7, b8, b9, b10, .agg #[.bool s, .slice A n c], x7_1, x7_2, x7_3, x7_4, x7_5, x7_6, x7_7, x7_8, x7_10, rfl, rfl, hup, (fun _ => q0.up hup), HF1.out, HF2.out, HF3.out, HF4.out, HF5.out, HF6.out, HF7.out, HF8.out, HF9.out, HF10.out⟩
      · skip
        have hb : b0 = true := getB (l := [b0, b1, b2, b3, b4, b5, b6, b7, b8, b9, b10]) (ready_dep hi rfl 0 (by kernel_rfl)) rfl
        have hx := hide (HF0.out hb)
        clear hb
        clear hi
        refine wpOp_step rfl (fun K hK => ?_)
        go_simp
        refine (ownR _ _ _ _ hx.out).mono ?_
        rintro e w1 ⟨v1, rfl, hv1, hup1⟩
        go_wp2_with fail
        exact ⟨b0, true, b2, b3, b4, b5, b6, b7, b8, b9, b10, x7_0, v1, x7_2, x7_3, x7_4, x7_5, x7_6, x7_7, x7_8, x7_10, rfl, rfl, hup.trans hup1, (fun h => (HF0.out h).up hup1), (fun _ => hv1), (fun h => (HF2.out h).up hup1), (fun h => (HF3.out h).up hup1), (fun h => by obtain ⟨q0, rq, r0⟩ := HF4.out h; exact ⟨q0, rq, r0.up hup1⟩), (fun h => by obtain ⟨q0, rq, r0⟩ := HF5.out h; exact ⟨q0, rq, r0.up hup1⟩), (fun h => (HF6.out h).up hup1), HF7.out, (fun h => (HF8.out h).up hup1), HF9.out, HF10.out⟩
      · skip
        have k0 := hb2.up hup
        have k1 := k0.cell (i := 0) rfl
        have k2 := k0.cell (i := 1) rfl
        clear hi
        refine wpOp_step rfl (fun K hK => ?_)
        go_simp
        refine hK _ _ ?_
        clear hK K
        exact ⟨b0, b1, true, b3, b4, b5, b6, b7, b8, b9, b10, x7_0, x7_1, .agg #[.bool t, .slice C m d], x7_3, x7_4, x7_5, x7_6, x7_7, x7_8, x7_10, rfl, rfl, hup, HF0.out, HF1.out, (fun _ => q1.up hup), HF3.out, HF4.out, HF5.out, HF6.out, HF7.out, HF8.out, HF9.out, HF10.out⟩
      · skip
        have hb : b2 = true := getB (l := [b0, b1, b2, b3, b4, b5, b6, b7, b8, b9, b10]) (ready_dep hi rfl 2 (by kernel_rfl)) rfl
        have hx := hide (HF2.out hb)
        clear hb
        clear hi
        refine wpOp_step rfl (fun K hK => ?_)
        go_simp
        refine (ownR _ _ _ _ hx.out).mono ?_
        rintro e w1 ⟨v1, rfl, hv1, hup1⟩
        go_wp2_with fail
        exact ⟨b0, b1, b2, true, b4, b5, b6, b7, b8, b9, b10, x7_0, x7_1, x7_2, v1, x7_4, x7_5, x7_6, x7_7, x7_8, x7_10, rfl, rfl, hup.trans hup1, (fun h => (HF0.out h).up hup1), (fun h => (HF1.out h).up hup1), (fun h => (HF2.out h).up hup1), (fun _ => hv1), (fun h => by obtain ⟨q0, rq, r0⟩ := HF4.out h; exact ⟨q0, rq, r0.up hup1⟩), (fun h => by obtain ⟨q0, rq, r0⟩ := HF5.out h; exact ⟨q0, rq, r0.up hup1⟩), (fun h => (HF6.out h).up hup1), HF7.out, (fun h => (HF8.out h).up hup1), HF9.out, HF10.out⟩
      · skip
        have hb0q : b1 = true := getB (l := [b0, b1, b2, b3, b4, b5, b6, b7, b8, b9, b10]) (ready_dep hi rfl 1 (by kernel_rfl)) rfl
        have hx0 := hide (HF1.out hb0q)
        clear hb0q
        have hb1q : b3 = true := getB (l := [b0, b1, b2, b3, b4, b5, b6, b7, b8, b9, b10]) (ready_dep hi rfl 3 (by kernel_rfl)) rfl
        have hx1 := hide (HF3.out hb1q)
        clear hb1q
        clear hi
        refine wpOp_step rfl (fun K hK => ?_)
        go_simp
        refine (subZ _ _ s t ls ks _ HB hx0.out hx1.out).mono ?_
        rintro e w1 ⟨v0, rfl, hv0, hup1⟩
        go_wp2_with fail
        exact ⟨b0, b1, b2, b3, true, b5, b6, b7, b8, b9, b10, x7_0, x7_1, x7_2, x7_3, .tuple #[v0, .int .i64 1], x7_5, x7_6, x7_7, x7_8, x7_10, rfl, rfl, hup.trans hup1, (fun h => (HF0.out h).up hup1), (fun h => (HF1.out h).up hup1), (fun h => (HF2.out h).up hup1), (fun h => (HF3.out h).up hup1), (fun _ => ⟨v0, rfl, hv0.mono (Nat.zero_le _)⟩), (fun h => by obtain ⟨q0, rq, r0⟩ := HF5.out h; exact ⟨q0, rq, r0.up hup1⟩), (fun h => (HF6.out h).up hup1), HF7.out, (fun h => (HF8.out h).up hup1), HF9.out, HF10.out⟩
      · skip
        have hb : b4 = true := getB (l := [b0, b1, b2, b3, b4, b5, b6, b7, b8, b9, b10]) (ready_dep hi rfl 4 (by kernel_rfl)) rfl
        have hx := hide (HF4.out hb)
        clear hb
        clear hi
        refine wpOp_step rfl (fun K hK => ?_)
        go_simp
        refine hK _ _ ?_
        clear hK K
        exact ⟨b0, b1, b2, b3, b4, true, b6, b7, b8, b9, b10, x7_0, x7_1, x7_2, x7_3, x7_4, x7_4, x7_6, x7_7, x7_8, x7_10, rfl, rfl, hup, HF0.out, HF1.out, HF2.out, HF3.out, HF4.out, (fun _ => hx.out), HF6.out, HF7.out, HF8.out, HF9.out, HF10.out⟩
      · skip
        have hb : b5 = true := getB (l := [b0, b1, b2, b3, b4, b5, b6, b7, b8, b9, b10]) (ready_dep hi rfl 5 (by kernel_rfl)) rfl
        have Hb := hide hb
        obtain ⟨v0, hxe, hv0⟩ := HF5.out hb
        clear hb
        subst hxe
        have hn := ready_not hi
        have hst9 : b9 = false := by
          cases e : b9 with
          | false => rfl
          | true => have h5 := (HF9.out e).2; rw [h5] at hn; cases hn
        have Hst9 := hide hst9
        clear hst9
        clear hn
        clear hi
        refine wpOp_step rfl (fun K hK => ?_)
        go_simp
        refine hK _ _ ?_
        clear hK K
        exact ⟨b0, b1, b2, b3, b4, b5, true, b7, b8, b9, b10, x7_0, x7_1, x7_2, x7_3, x7_4, .tuple #[v0, .int .i64 1], v0, x7_7, x7_8, x7_10, rfl, rfl, hup, HF0.out, HF1.out, HF2.out, HF3.out, HF4.out, HF5.out, (fun _ => hv0), HF7.out, (fun h => by rw [Hst9.out] at *; obtain ⟨g, s, A, n, c, h1, h2, h3, _⟩ := HF8.out h; exact ⟨g, s, A, n, c, h1, h2, h3.up (Up.refl _), fun h => by cases h⟩), (fun h => ⟨(HF9.out h).1, rfl⟩), HF10.out⟩
      · skip
        have hb : b5 = true := getB (l := [b0, b1, b2, b3, b4, b5, b6, b7, b8, b9, b10]) (ready_dep hi rfl 5 (by kernel_rfl)) rfl
        have Hb := hide hb
        obtain ⟨v0, hxe, hv0⟩ := HF5.out hb
        clear hb
        subst hxe
        clear hi
        refine wpOp_step rfl (fun K hK => ?_)
        go_simp
        refine hK _ _ ?_
        clear hK K
        exact ⟨b0, b1, b2, b3, b4, b5, b6, true, b8, b9, b10, x7_0, x7_1, x7_2, x7_3, x7_4, .tuple #[v0, .int .i64 1], x7_6, .int .i64 1, x7_8, x7_10, rfl, rfl, hup, HF0.out, HF1.out, HF2.out, HF3.out, HF4.out, HF5.out, HF6.out, (fun _ => rfl), HF8.out, HF9.out, HF10.out⟩
      · skip
        have hn := ready_not hi
        have hst9 : b9 = false := by
          cases e : b9 with
          | false => rfl
          | true => have h5 := (HF9.out e).1; rw [h5] at hn; cases hn
        have Hst9 := hide hst9
        clear hst9
        clear hn
        clear hi
        have hsz := hup.size
        have hupA := (Up.refl W).alloc (.cells #[.bool false, .slice none 0 0] 25)
        refine wpOp_step rfl (fun K hK => ?_)
        go_simp
        refine hK _ _ ?_
        clear hK K
        exact ⟨b0, b1, b2, b3, b4, b5, b6, b7, true, b9, b10, x7_0, x7_1, x7_2, x7_3, x7_4, x7_5, x7_6, x7_7, .pointer (some ⟨W.heap.size, 0, none⟩), x7_10, rfl, rfl, hup.trans hupA, (fun h => (HF0.out h).up hupA), (fun h => (HF1.out h).up hupA), (fun h => (HF2.out h).up hupA), (fun h => (HF3.out h).up hupA), (fun h => by obtain ⟨q0, rq, r0⟩ := HF4.out h; exact ⟨q0, rq, r0.up hupA⟩), (fun h => by obtain ⟨q0, rq, r0⟩ := HF5.out h; exact ⟨q0, rq, r0.up hupA⟩), (fun h => (HF6.out h).up hupA), HF7.out, (fun _ => by rw [Hst9.out]; exact Box.new _ W _ hsz), (fun h => ⟨rfl, (HF9.out h).2⟩), HF10.out⟩
      · skip
        have hb2 : b8 = true := getB (l := [b0, b1, b2, b3, b4, b5, b6, b7, b8, b9, b10]) (ready_dep hi rfl 8 (by kernel_rfl)) rfl
        have hb1 : b6 = true := getB (l := [b0, b1, b2, b3, b4, b5, b6, b7, b8, b9, b10]) (ready_dep hi rfl 6 (by kernel_rfl)) rfl
        clear hi
        obtain ⟨s9, A9, n9, c9, hxc⟩ := (HF6.out hb1).agg
        subst hxc
        obtain ⟨g, s8, A8, n8, c8, hxb, hgB, hbk, _⟩ := HF8.out hb2
        subst hxb
        have f1 := hbk.cell (i := 0) rfl
        have f2 := hbk.cell (i := 1) rfl
        have f3 := hbk.frozen 0
        have f4 := hbk.frozen 1
        have Hb1 := hide hb1
        have Hb2 := hide hb2
        have hsz := hup.size
        clear hb1 hb2
        refine wpOp_step rfl (fun K hK => ?_)
        go_simp
        refine hK _ _ ?_
        clear hK K
        exact ⟨b0, b1, b2, b3, b4, b5, b6, b7, b8, true, b10, x7_0, x7_1, x7_2, x7_3, x7_4, x7_5, .agg #[.bool s9, .slice A9 n9 c9], x7_7, .pointer (some ⟨g, 0, none⟩), x7_10, rfl, rfl, hup.two (g := g) hgB _ _, (fun h => (HF0.out h).boxed hbk _ _), (fun h => (HF1.out h).boxed hbk _ _), (fun h => (HF2.out h).boxed hbk _ _), (fun h => (HF3.out h).boxed hbk _ _), (fun h => by obtain ⟨q0, rq, r0⟩ := HF4.out h; exact ⟨q0, rq, r0.boxed hbk _ _⟩), (fun h => by obtain ⟨q0, rq, r0⟩ := HF5.out h; exact ⟨q0, rq, r0.boxed hbk _ _⟩), (fun h => (HF6.out h).boxed hbk _ _), HF7.out, (fun _ => hbk.fill hgB), (fun _ => ⟨Hb2.out, Hb1.out⟩), HF10.out⟩
      · skip
        have hb : b7 = true := getB (l := [b0, b1, b2, b3, b4, b5, b6, b7, b8, b9, b10]) (ready_dep hi rfl 7 (by kernel_rfl)) rfl
        have hx := hide (HF7.out hb)
        clear hb
        clear hi
        refine wpOp_step rfl (fun K hK => ?_)
        go_simp
        refine hK _ _ ?_
        clear hK K
        exact ⟨b0, b1, b2, b3, b4, b5, b6, b7, b8, b9, true, x7_0, x7_1, x7_2, x7_3, x7_4, x7_5, x7_6, x7_7, x7_8, x7_7, rfl, rfl, hup, HF0.out, HF1.out, HF2.out, HF3.out, HF4.out, HF5.out, HF6.out, HF7.out, HF8.out, HF9.out, (fun _ => hx.out)⟩
    case hQ =>
      rintro l a W7_ ⟨b0, b1, b2, b3, b4, b5, b6, b7, b8, b9, b10, x7_0, x7_1, x7_2, x7_3, x7_4, x7_5, x7_6, x7_7, x7_8, x7_10, rfl, rfl, hup, hF0, hF1, hF2, hF3, hF4, hF5, hF6, hF7, hF8, hF9, hF10⟩ hall
      have hb0 : b0 = true := getB (l := [b0, b1, b2, b3, b4, b5, b6, b7, b8, b9, b10]) (hall 0 (by decide)) rfl
      have hb1 : b1 = true := getB (l := [b0, b1, b2, b3, b4, b5, b6, b7, b8, b9, b10]) (hall 1 (by decide)) rfl
      have hb2 : b2 = true := getB (l := [b0, b1, b2, b3, b4, b5, b6, b7, b8, b9, b10]) (hall 2 (by decide)) rfl
      have hb3 : b3 = true := getB (l := [b0, b1, b2, b3, b4, b5, b6, b7, b8, b9, b10]) (hall 3 (by decide)) rfl
      have hb4 : b4 = true := getB (l := [b0, b1, b2, b3, b4, b5, b6, b7, b8, b9, b10]) (hall 4 (by decide)) rfl
      have hb5 : b5 = true := getB (l := [b0, b1, b2, b3, b4, b5, b6, b7, b8, b9, b10]) (hall 5 (by decide)) rfl
      have hb6 : b6 = true := getB (l := [b0, b1, b2, b3, b4, b5, b6, b7, b8, b9, b10]) (hall 6 (by decide)) rfl
      have hb7 : b7 = true := getB (l := [b0, b1, b2, b3, b4, b5, b6, b7, b8, b9, b10]) (hall 7 (by decide)) rfl
      have hb8 : b8 = true := getB (l := [b0, b1, b2, b3, b4, b5, b6, b7, b8, b9, b10]) (hall 8 (by decide)) rfl
      have hb9 : b9 = true := getB (l := [b0, b1, b2, b3, b4, b5, b6, b7, b8, b9, b10]) (hall 9 (by decide)) rfl
      have hb10 : b10 = true := getB (l := [b0, b1, b2, b3, b4, b5, b6, b7, b8, b9, b10]) (hall 10 (by decide)) rfl
      subst hb0 hb1 hb2 hb3 hb4 hb5 hb6 hb7 hb8 hb9 hb10
      clear hall
      have m0 := hF0 rfl
      have m1 := hF1 rfl
      have m2 := hF2 rfl
      have m3 := hF3 rfl
      have m4 := hF4 rfl
      have m5 := hF5 rfl
      have m6 := hF6 rfl
      have m7 := hF7 rfl
      have m8 := hF8 rfl
      have m10 := hF10 rfl
      clear hF0 hF1 hF2 hF3 hF4 hF5 hF6 hF7 hF8 hF9 hF10
      obtain ⟨gr2, sr2, Ar2, nr2, cr2, rfl, hgr2, hkr2, her2⟩ := m8
      obtain rfl := her2 rfl
      clear her2 hgr2
      have hir2 := m6
      obtain rfl := m7
      obtain rfl := m10
      clear m0 m1 m2 m3 m4 m5 m6
      have hb1 := hb1.up hup
      have hb2 := hb2.up hup
      have hkz := hkz.up hup
      have hkr1 := hkr1.up hup
      have q0 := q0.up hup
      have q1 := q1.up hup
      have hiz := hiz.up hup
      have hir1 := hir1.up hup
      have hupw := hupw.trans hup
      clear hup
      have hb1a := hb1.cell (i := 0) rfl
      have hb1b := hb1.cell (i := 1) rfl
      have hb1l := hb1.lt
      have hb2a := hb2.cell (i := 0) rfl
      have hb2b := hb2.cell (i := 1) rfl
      have hb2l := hb2.lt
      have hkza := hkz.cell (i := 0) rfl
      have hkzb := hkz.cell (i := 1) rfl
      have hkzl := hkz.lt
      have hkr1a := hkr1.cell (i := 0) rfl
      have hkr1b := hkr1.cell (i := 1) rfl
      have hkr1l := hkr1.lt
      have hkr2a := hkr2.cell (i := 0) rfl
      have hkr2b := hkr2.cell (i := 1) rfl
      have hkr2l := hkr2.lt
      go_wp2_with fail
      clear hb1a hb1b hb1l hb2a hb2b hb2l hkza hkzb hkzl hkr1a hkr1b hkr1l hkr2a hkr2b hkr2l
      refine region_inv (fun l a W => ∃ (b0 b1 b2 b3 b4 b5 b6 b7 b8 b9 b10 : Bool) (x8_0 x8_1 x8_2 x8_3 x8_4 x8_5 x8_6 x8_7 x8_8 x8_10 : Value), l = #[b0, b1, b2, b3, b4, b5, b6, b7, b8, b9, b10] ∧ a = { tmps := #[.agg #[.bool s, .slice A n c], .agg #[.bool t, .slice C m d], .pointer (some ⟨w.heap.size, 0, none⟩), .pointer (some ⟨w.heap.size + 1, 0, none⟩), .bool false, .pointer (some ⟨w4_.heap.size, 0, none⟩), .pointer (some ⟨gr1, 0, none⟩), .int .i64 1, .pointer (some ⟨gr2, 0, none⟩), .int .i64 1, x8_8, x8_10, undef, undef, undef, undef, undef, undef, undef, undef, undef, undef, undef, undef, .bool true, .bool false, .bool false, .agg #[.bool s, .slice A n c], .bool true, .bool false, .bool false, .bool false, .agg #[.bool t, .slice C m d], .bool true, .bool false, .bool false, .bool false, .agg #[.bool s, .slice A n c], .bool false, .bool false, undef, undef, .bool false, .bool false, undef, .agg #[.bool false, .slice none 0 0], x6_5, x6_0, x6_1, x6_2, x6_3, x6_4, .agg #[.bool sr1, .slice Ar1 nr1 cr1], .int .i64 1, x7_5, x7_0, x7_1, x7_2, x7_3, x7_4, .agg #[.bool sr2, .slice Ar2 nr2 cr2], .int .i64 1, x8_5, x8_0, x8_1, x8_2, x8_3, x8_4, x8_6, x8_7, undef, undef, undef, undef, undef, undef, undef, undef, undef, undef, undef, undef, undef, undef, undef, undef, undef, undef, undef, undef, undef, undef, undef, undef, undef, undef, undef, undef, undef, undef, undef, undef, undef, undef, undef, undef, undef, undef, undef, undef, undef, undef, undef, undef, undef, undef, undef, undef, undef, undef, undef, undef, undef, undef, undef, undef, undef, undef, undef, undef, undef, undef, undef, undef, undef, undef, undef, undef, undef, undef, undef, undef, undef, undef, undef, undef, undef, undef, undef, undef, undef, undef, undef, undef, undef, undef, undef, undef, undef, undef], defers := [] } ∧ Up W7_ W ∧ (b0 = true → Rw W x8_0 s ls) ∧ (b1 = true → Rw W x8_1 s ls) ∧ (b2 = true → Rw W x8_2 t ks) ∧ (b3 = true → Rw W x8_3 t ks) ∧ (b4 = true → ∃ v0 : Value, x8_4 = .tuple #[v0, .int .i64 1] ∧ IsInt 0 W v0 (0)) ∧ (b5 = true → ∃ v0 : Value, x8_5 = .tuple #[v0, .int .i64 1] ∧ IsInt 0 W v0 (0)) ∧ (b6 = true → IsInt 0 W x8_6 (0)) ∧ (b7 = true → x8_7 = .int .i64 1) ∧ (b8 = true → Box (W7_.heap.size) W x8_8 b9 x8_6) ∧ (b9 = true → b8 = true ∧ b6 = true) ∧ (b10 = true → x8_10 = .int .i64 1)) (by kernel_rfl) (by kernel_rfl) ?hs ?h0 ?hstep ?hQ
      case hs => rintro l a W ⟨b0, b1, b2, b3, b4, b5, b6, b7, b8, b9, b10, x8_0, x8_1, x8_2, x8_3, x8_4, x8_5, x8_6, x8_7, x8_8, x8_10, rfl, rfl, hup, hF0, hF1, hF2, hF3, hF4, hF5, hF6, hF7, hF8, hF9, hF10⟩; rfl
      case h0 => exact ⟨false, false, false, false, false, false, false, false, false, false, false, undef, undef, undef, undef, undef, undef, undef, undef, undef, undef, rfl, rfl, (Up.refl W7_).drew, (fun h => by cases h), (fun h => by cases h), (fun h => by cases h), (fun h => by cases h), (fun h => by cases h), (fun h => by cases h), (fun h => by cases h), (fun h => by cases h), (fun h => by cases h), (fun h => by cases h), (fun h => by cases h)⟩
      case hstep =>
        rintro l a W ⟨b0, b1, b2, b3, b4, b5, b6, b7, b8, b9, b10, x8_0, x8_1, x8_2, x8_3, x8_4, x8_5, x8_6, x8_7, x8_8, x8_10, rfl, rfl, hup, hF0, hF1, hF2, hF3, hF4, hF5, hF6, hF7, hF8, hF9, hF10⟩ i hi
        have hlt : i < 11 := ready_lt hi
        have HF0 := hide hF0
        have HF1 := hide hF1
        have HF2 := hide hF2
        have HF3 := hide hF3
        have HF4 := hide hF4
        have HF5 := hide hF5
        have HF6 := hide hF6
        have HF7 := hide hF7
        have HF8 := hide hF8
        have HF9 := hide hF9
        have HF10 := hide hF10
        clear hF0 hF1 hF2 hF3 hF4 hF5 hF6 hF7 hF8 hF9 hF10
        have hcase : i = 0 ∨ i = 1 ∨ i = 2 ∨ i = 3 ∨ i = 4 ∨ i = 5 ∨ i = 6 ∨ i = 7 ∨ i = 8 ∨ i = 9 ∨ i = 10 := by omega
        clear hlt
        rcases hcase with rfl | rfl | rfl | rfl | rfl | rfl | rfl | rfl | rfl | rfl | rfl
        · skip
          have k0 := hb1.up hup
          have k1 := k0.cell (i := 0) rfl
          have k2 := k0.cell (i := 1) rfl
          clear hi
          refine wpOp_step rfl (fun K hK => ?_)
          go_simp
          refine hK _ _ ?_
          clear hK K
          exact ⟨true, b1, b2, b3, b4, b5, b6, b7, b8, b9, b10, .agg #[.bool s, .slice A n c], x8_1, x8_2, x8_3, x8_4, x8_5, x8_6, x8_7, x8_8, x8_10, rfl, rfl, hup, (fun _ => q0.up hup), HF1.out, HF2.out, HF3.out, HF4.out, HF5.out, HF6.out, HF7.out, HF8.out, HF9.out, HF10.out⟩
        · skip
          have hb : b0 = true := getB (l := [b0, b1, b2, b3, b4, b5, b6, b7, b8, b9, b10]) (ready_dep hi rfl 0 (by kernel_rfl)) rfl
          have hx := hide (HF0.out hb)
          clear hb
          clear hi
          refine wpOp_step rfl (fun K hK => ?_)
          go_simp
          refine (ownR _ _ _ _ hx.out).mono ?_
          rintro e w1 ⟨v1, rfl, hv1, hup1⟩
          go_wp2_with fail
          exact ⟨b0, true, b2, b3, b4, b5, b6, b7, b8, b9, b10, x8_0, v1, x8_2, x8_3, x8_4, x8_5, x8_6, x8_7, x8_8, x8_10, rfl, rfl, hup.trans hup1, (fun h => (HF0.out h).up hup1), (fun _ => hv1), (fun h => (HF2.out h).up hup1), (fun h => (HF3.out h).up hup1), (fun h => by obtain ⟨q0, rq, r0⟩ := HF4.out h; exact ⟨q0, rq, r0.up hup1⟩), (fun h => by obtain ⟨q0, rq, r0⟩ := HF5.out h; exact ⟨q0, rq, r0.up hup1⟩), (fun h => (HF6.out h).up hup1), HF7.out, (fun h => (HF8.out h).up hup1), HF9.out, HF10.out⟩
        · skip
          have k0 := hb2.up hup
          have k1 := k0.cell (i := 0) rfl
          have k2 := k0.cell (i := 1) rfl
          clear hi
          refine wpOp_step rfl (fun K hK => ?_)
          go_simp
          refine hK _ _ ?_
          clear hK K
          exact ⟨b0, b1, true, b3, b4, b5, b6, b7, b8, b9, b10, x8_0, x8_1, .agg #[.bool t, .slice C m d], x8_3, x8_4, x8_5, x8_6, x8_7, x8_8, x8_10, rfl, rfl, hup, HF0.out, HF1.out, (fun _ => q1.up hup), HF3.out, HF4.out, HF5.out, HF6.out, HF7.out, HF8.out, HF9.out, HF10.out⟩
        · skip
          have hb : b2 = true := getB (l := [b0, b1, b2, b3, b4, b5, b6, b7, b8, b9, b10]) (ready_dep hi rfl 2 (by kernel_rfl)) rfl
          have hx := hide (HF2.out hb)
          clear hb
          clear hi
          refine wpOp_step rfl (fun K hK => ?_)
          go_simp
          refine (ownR _ _ _ _ hx.out).mono ?_
          rintro e w1 ⟨v1, rfl, hv1, hup1⟩
          go_wp2_with fail
          exact ⟨b0, b1, b2, true, b4, b5, b6, b7, b8, b9, b10, x8_0, x8_1, x8_2, v1, x8_4, x8_5, x8_6, x8_7, x8_8, x8_10, rfl, rfl, hup.trans hup1, (fun h => (HF0.out h).up hup1), (fun h => (HF1.out h).up hup1), (fun h => (HF2.out h).up hup1), (fun _ => hv1), (fun h => by obtain ⟨q0, rq, r0⟩ := HF4.out h; exact ⟨q0, rq, r0.up hup1⟩), (fun h => by obtain ⟨q0, rq, r0⟩ := HF5.out h; exact ⟨q0, rq, r0.up hup1⟩), (fun h => (HF6.out h).up hup1), HF7.out, (fun h => (HF8.out h).up hup1), HF9.out, HF10.out⟩
        · skip
          have hb0q : b1 = true := getB (l := [b0, b1, b2, b3, b4, b5, b6, b7, b8, b9, b10]) (ready_dep hi rfl 1 (by kernel_rfl)) rfl
          have hx0 := hide (HF1.out hb0q)
          clear hb0q
          have hb1q : b3 = true := getB (l := [b0, b1, b2, b3, b4, b5, b6, b7, b8, b9, b10]) (ready_dep hi rfl 3 (by kernel_rfl)) rfl
          have hx1 := hide (HF3.out hb1q)
          clear hb1q
          clear hi
          refine wpOp_step rfl (fun K hK => ?_)
          go_simp
          refine (mulZ _ _ s t ls ks _ HB hx0.out hx1.out).mono ?_
          rintro e w1 ⟨v0, rfl, hv0, hup1⟩
          go_wp2_with fail
          exact ⟨b0, b1, b2, b3, true, b5, b6, b7, b8, b9, b10, x8_0, x8_1, x8_2, x8_3, .tuple #[v0, .int .i64 1], x8_5, x8_6, x8_7, x8_8, x8_10, rfl, rfl, hup.trans hup1, (fun h => (HF0.out h).up hup1), (fun h => (HF1.out h).up hup1), (fun h => (HF2.out h).up hup1), (fun h => (HF3.out h).up hup1), (fun _ => ⟨v0, rfl, hv0.mono (Nat.zero_le _)⟩), (fun h => by obtain ⟨q0, rq, r0⟩ := HF5.out h; exact ⟨q0, rq, r0.up hup1⟩), (fun h => (HF6.out h).up hup1), HF7.out, (fun h => (HF8.out h).up hup1), HF9.out, HF10.out⟩
        · skip
          have hb : b4 = true := getB (l := [b0, b1, b2, b3, b4, b5, b6, b7, b8, b9, b10]) (ready_dep hi rfl 4 (by kernel_rfl)) rfl
          have hx := hide (HF4.out hb)
          clear hb
          clear hi
          refine wpOp_step rfl (fun K hK => ?_)
          go_simp
          refine hK _ _ ?_
          clear hK K
          exact ⟨b0, b1, b2, b3, b4, true, b6, b7, b8, b9, b10, x8_0, x8_1, x8_2, x8_3, x8_4, x8_4, x8_6, x8_7, x8_8, x8_10, rfl, rfl, hup, HF0.out, HF1.out, HF2.out, HF3.out, HF4.out, (fun _ => hx.out), HF6.out, HF7.out, HF8.out, HF9.out, HF10.out⟩
        · skip
          have hb : b5 = true := getB (l := [b0, b1, b2, b3, b4, b5, b6, b7, b8, b9, b10]) (ready_dep hi rfl 5 (by kernel_rfl)) rfl
          have Hb := hide hb
          obtain ⟨v0, hxe, hv0⟩ := HF5.out hb
          clear hb
          subst hxe
          have hn := ready_not hi
          have hst9 : b9 = false := by
            cases e : b9 with
            | false => rfl
            | true => have h5 := (HF9.out e).2; rw [h5] at hn; cases hn
          have Hst9 := hide hst9
          clear hst9
          clear hn
          clear hi
          refine wpOp_step rfl (fun K hK => ?_)
          go_simp
          refine hK _ _ ?_
          clear hK K
          exact ⟨b0, b1, b2, b3, b4, b5, true, b7, b8, b9, b10, x8_0, x8_1, x8_2, x8_3, x8_4, .tuple #[v0, .int .i64 1], v0, x8_7, x8_8, x8_10, rfl, rfl, hup, HF0.out, HF1.out, HF2.out, HF3.out, HF4.out, HF5.out, (fun _ => hv0), HF7.out, (fun h => by rw [Hst9.out] at *; obtain ⟨g, s, A, n, c, h1, h2, h3, _⟩ := HF8.out h; exact ⟨g, s, A, n, c, h1, h2, h3.up (Up.refl _), fun h => by cases h⟩), (fun h => ⟨(HF9.out h).1, rfl⟩), HF10.out⟩
        · skip
          have hb : b5 = true := getB (l := [b0, b1, b2, b3, b4, b5, b6, b7, b8, b9, b10]) (ready_dep hi rfl 5 (by kernel_rfl)) rfl
          have Hb := hide hb
          obtain ⟨v0, hxe, hv0⟩ := HF5.out hb
          clear hb
          subst hxe
          clear hi
          refine wpOp_step rfl (fun K hK => ?_)
          go_simp
          refine hK _ _ ?_
          clear hK K
          exact ⟨b0, b1, b2, b3, b4, b5, b6, true, b8, b9, b10, x8_0, x8_1, x8_2, x8_3, x8_4, .tuple #[v0, .int .i64 1], x8_6, .int .i64 1, x8_8, x8_10, rfl, rfl, hup, HF0.out, HF1.out, HF2.out, HF3.out, HF4.out, HF5.out, HF6.out, (fun _ => rfl), HF8.out, HF9.out, HF10.out⟩
        · skip
          have hn := ready_not hi
          have hst9 : b9 = false := by
            cases e : b9 with
            | false => rfl
            | true => have h5 := (HF9.out e).1; rw [h5] at hn; cases hn
          have Hst9 := hide hst9
          clear hst9
          clear hn
          clear hi
          have hsz := hup.size
          have hupA := (Up.refl W).alloc (.cells #[.bool false, .slice none 0 0] 25)
          refine wpOp_step rfl (fun K hK => ?_)
          go_simp
          refine hK _ _ ?_
          clear hK K
          exact ⟨b0, b1, b2, b3, b4, b5, b6, b7, true, b9, b10, x8_0, x8_1, x8_2, x8_3, x8_4, x8_5, x8_6, x8_7, .pointer (some ⟨W.heap.size, 0, none⟩), x8_10, rfl, rfl, hup.trans hupA, (fun h => (HF0.out h).up hupA), (fun h => (HF1.out h).up hupA), (fun h => (HF2.out h).up hupA), (fun h => (HF3.out h).up hupA), (fun h => by obtain ⟨q0, rq, r0⟩ := HF4.out h; exact ⟨q0, rq, r0.up hupA⟩), (fun h => by obtain ⟨q0, rq, r0⟩ := HF5.out h; exact ⟨q0, rq, r0.up hupA⟩), (fun h => (HF6.out h).up hupA), HF7.out, (fun _ => by rw [Hst9.out]; exact Box.new _ W _ hsz), (fun h => ⟨rfl, (HF9.out h).2⟩), HF10.out⟩
        · skip
          have hb2 : b8 = true := getB (l := [b0, b1, b2, b3, b4, b5, b6, b7, b8, b9, b10]) (ready_dep hi rfl 8 (by kernel_rfl)) rfl
          have hb1 : b6 = true := getB (l := [b0, b1, b2, b3, b4, b5, b6, b7, b8, b9, b10]) (ready_dep hi rfl 6 (by kernel_rfl)) rfl
          clear hi
          obtain ⟨s9, A9, n9, c9, hxc⟩ := (HF6.out hb1).agg
          subst hxc
          obtain ⟨g, s8, A8, n8, c8, hxb, hgB, hbk, _⟩ := HF8.out hb2
          subst hxb
          have f1 := hbk.cell (i := 0) rfl
          have f2 := hbk.cell (i := 1) rfl
          have f3 := hbk.frozen 0
          have f4 := hbk.frozen 1
          have Hb1 := hide hb1
          have Hb2 := hide hb2
          have hsz := hup.size
          clear hb1 hb2
          refine wpOp_step rfl (fun K hK => ?_)
          go_simp
          refine hK _ _ ?_
          clear hK K
          exact ⟨b0, b1, b2, b3, b4, b5, b6, b7, b8, true, b10, x8_0, x8_1, x8_2, x8_3, x8_4, x8_5, .agg #[.bool s9, .slice A9 n9 c9], x8_7, .pointer (some ⟨g, 0, none⟩), x8_10, rfl, rfl, hup.two (g := g) hgB _ _, (fun h => (HF0.out h).boxed hbk _ _), (fun h => (HF1.out h).boxed hbk _ _), (fun h => (HF2.out h).boxed hbk _ _), (fun h => (HF3.out h).boxed hbk _ _), (fun h => by obtain ⟨q0, rq, r0⟩ := HF4.out h; exact ⟨q0, rq, r0.boxed hbk _ _⟩), (fun h => by obtain ⟨q0, rq, r0⟩ := HF5.out h; exact ⟨q0, rq, r0.boxed hbk _ _⟩), (fun h => (HF6.out h).boxed hbk _ _), HF7.out, (fun _ => hbk.fill hgB), (fun _ => ⟨Hb2.out, Hb1.out⟩), HF10.out⟩
        · skip
          have hb : b7 = true := getB (l := [b0, b1, b2, b3, b4, b5, b6, b7, b8, b9, b10]) (ready_dep hi rfl 7 (by kernel_rfl)) rfl
          have hx := hide (HF7.out hb)
          clear hb
          clear hi
          refine wpOp_step rfl (fun K hK => ?_)
          go_simp
          refine hK _ _ ?_
          clear hK K
          exact ⟨b0, b1, b2, b3, b4, b5, b6, b7, b8, b9, true, x8_0, x8_1, x8_2, x8_3, x8_4, x8_5, x8_6, x8_7, x8_8, x8_7, rfl, rfl, hup, HF0.out, HF1.out, HF2.out, HF3.out, HF4.out, HF5.out, HF6.out, HF7.out, HF8.out, HF9.out, (fun _ => hx.out)⟩
      case hQ =>
        rintro l a W8_ ⟨b0, b1, b2, b3, b4, b5, b6, b7, b8, b9, b10, x8_0, x8_1, x8_2, x8_3, x8_4, x8_5, x8_6, x8_7, x8_8, x8_10, rfl, rfl, hup, hF0, hF1, hF2, hF3, hF4, hF5, hF6, hF7, hF8, hF9, hF10⟩ hall
        have hb0 : b0 = true := getB (l := [b0, b1, b2, b3, b4, b5, b6, b7, b8, b9, b10]) (hall 0 (by decide)) rfl
        have hb1 : b1 = true := getB (l := [b0, b1, b2, b3, b4, b5, b6, b7, b8, b9, b10]) (hall 1 (by decide)) rfl
        have hb2 : b2 = true := getB (l := [b0, b1, b2, b3, b4, b5, b6, b7, b8, b9, b10]) (hall 2 (by decide)) rfl
        have hb3 : b3 = true := getB (l := [b0, b1, b2, b3, b4, b5, b6, b7, b8, b9, b10]) (hall 3 (by decide)) rfl
        have hb4 : b4 = true := getB (l := [b0, b1, b2, b3, b4, b5, b6, b7, b8, b9, b10]) (hall 4 (by decide)) rfl
        have hb5 : b5 = true := getB (l := [b0, b1, b2, b3, b4, b5, b6, b7, b8, b9, b10]) (hall 5 (by decide)) rfl
        have hb6 : b6 = true := getB (l := [b0, b1, b2, b3, b4, b5, b6, b7, b8, b9, b10]) (hall 6 (by decide)) rfl
        have hb7 : b7 = true := getB (l := [b0, b1, b2, b3, b4, b5, b6, b7, b8, b9, b10]) (hall 7 (by decide)) rfl
        have hb8 : b8 = true := getB (l := [b0, b1, b2, b3, b4, b5, b6, b7, b8, b9, b10]) (hall 8 (by decide)) rfl
        have hb9 : b9 = true := getB (l := [b0, b1, b2, b3, b4, b5, b6, b7, b8, b9, b10]) (hall 9 (by decide)) rfl
        have hb10 : b10 = true := getB (l := [b0, b1, b2, b3, b4, b5, b6, b7, b8, b9, b10]) (hall 10 (by decide)) rfl
        subst hb0 hb1 hb2 hb3 hb4 hb5 hb6 hb7 hb8 hb9 hb10
        clear hall
        have m0 := hF0 rfl
        have m1 := hF1 rfl
        have m2 := hF2 rfl
        have m3 := hF3 rfl
        have m4 := hF4 rfl
        have m5 := hF5 rfl
        have m6 := hF6 rfl
        have m7 := hF7 rfl
        have m8 := hF8 rfl
        have m10 := hF10 rfl
        clear hF0 hF1 hF2 hF3 hF4 hF5 hF6 hF7 hF8 hF9 hF10
        obtain ⟨gr3, sr3, Ar3, nr3, cr3, rfl, hgr3, hkr3, her3⟩ := m8
        obtain rfl := her3 rfl
        clear her3 hgr3
        have hir3 := m6
        obtain rfl := m7
        obtain rfl := m10
        clear m0 m1 m2 m3 m4 m5 m6
        have hb1 := hb1.up hup
        have hb2 := hb2.up hup
        have hkz := hkz.up hup
        have hkr1 := hkr1.up hup
        have hkr2 := hkr2.up hup
        have q0 := q0.up hup
        have q1 := q1.up hup
        have hiz := hiz.up hup
        have hir1 := hir1.up hup
        have hir2 := hir2.up hup
        have hupw := hupw.trans hup
        clear hup
        have hb1a := hb1.cell (i := 0) rfl
        have hb1b := hb1.cell (i := 1) rfl
        have hb1l := hb1.lt
        have hb2a := hb2.cell (i := 0) rfl
        have hb2b := hb2.cell (i := 1) rfl
        have hb2l := hb2.lt
        have hkza := hkz.cell (i := 0) rfl
        have hkzb := hkz.cell (i := 1) rfl
        have hkzl := hkz.lt
        have hkr1a := hkr1.cell (i := 0) rfl
        have hkr1b := hkr1.cell (i := 1) rfl
        have hkr1l := hkr1.lt
        have hkr2a := hkr2.cell (i := 0) rfl
        have hkr2b := hkr2.cell (i := 1) rfl
        have hkr2l := hkr2.lt
        have hkr3a := hkr3.cell (i := 0) rfl
        have hkr3b := hkr3.cell (i := 1) rfl
        have hkr3l := hkr3.lt
        go_wp2_with fail
        clear hb1a hb1b hb1l hb2a hb2b hb2l hkza hkzb hkzl hkr1a hkr1b hkr1l hkr2a hkr2b hkr2l hkr3a hkr3b hkr3l
        refine region_inv (fun l a W => ∃ (b0 b1 b2 b3 b4 b5 b6 b7 b8 b9 b10 b11 b12 b13 : Bool) (x9_0 x9_1 x9_2 x9_3 x9_4 x9_5 x9_6 x9_7 x9_8 x9_9 x9_10 x9_13 : Value), l = #[b0, b1, b2, b3, b4, b5, b6, b7, b8, b9, b10, b11, b12, b13] ∧ a = { tmps := #[.agg #[.bool s, .slice A n c], .agg #[.bool t, .slice C m d], .pointer (some ⟨w.heap.size, 0, none⟩), .pointer (some ⟨w.heap.size + 1, 0, none⟩), .bool false, .pointer (some ⟨w4_.heap.size, 0, none⟩), .pointer (some ⟨gr1, 0, none⟩), .int .i64 1, .pointer (some ⟨gr2, 0, none⟩), .int .i64 1, .pointer (some ⟨gr3, 0, none⟩), .int .i64 1, x9_9, x9_10, x9_13, undef, undef, undef, undef, undef, undef, undef, undef, undef, .bool true, .bool false, .bool false, .agg #[.bool s, .slice A n c], .bool true, .bool false, .bool false, .bool false, .agg #[.bool t, .slice C m d], .bool true, .bool false, .bool false, .bool false, .agg #[.bool s, .slice A n c], .bool false, .bool false, undef, undef, .bool false, .bool false, undef, .agg #[.bool false, .slice none 0 0], x6_5, x6_0, x6_1, x6_2, x6_3, x6_4, .agg #[.bool sr1, .slice Ar1 nr1 cr1], .int .i64 1, x7_5, x7_0, x7_1, x7_2, x7_3, x7_4, .agg #[.bool sr2, .slice Ar2 nr2 cr2], .int .i64 1, x8_5, x8_0, x8_1, x8_2, x8_3, x8_4, .agg #[.bool sr3, .slice Ar3 nr3 cr3], .int .i64 1, x9_5, x9_0, x9_1, x9_2, x9_3, x9_4, x9_6, x9_7, x9_8, undef, undef, undef, undef, undef, undef, undef, undef, undef, undef, undef, undef, undef, undef, undef, undef, undef, undef, undef, undef, undef, undef, undef, undef, undef, undef, undef, undef, undef, undef, undef, undef, undef, undef, undef, undef, undef, undef, undef, undef, undef, undef, undef, undef, undef, undef, undef, undef, undef, undef, undef, undef, undef, undef, undef, undef, undef, undef, undef, undef, undef, undef, undef, undef, undef, undef, undef, undef, undef, undef, undef, undef, undef, undef, undef, undef, undef, undef, undef, undef, undef], defers := [] } ∧ Up W8_ W ∧ (b0 = true → Rw W x9_0 s ls) ∧ (b1 = true → Rw W x9_1 s ls) ∧ (b2 = true → Rw W x9_2 t ks) ∧ (b3 = true → Rw W x9_3 t ks) ∧ (b4 = true → ∃ v0 v1 : Value, x9_4 = .tuple #[v0, v1, .int .i64 1] ∧ IsInt 0 W v0 (0) ∧ IsInt 0 W v1 (0)) ∧ (b5 = true → ∃ v0 v1 : Value, x9_5 = .tuple #[v0, v1, .int .i64 1] ∧ IsInt 0 W v0 (0) ∧ IsInt 0 W v1 (0)) ∧ (b6 = true → IsInt 0 W x9_6 (0)) ∧ (b7 = true → IsInt 0 W x9_7 (0)) ∧ (b8 = true → x9_8 = .int .i64 1) ∧ (b9 = true → Box (W8_.heap.size) W x9_9 b11 x9_6) ∧ (b10 = true → Box (W8_.heap.size) W x9_10 b12 x9_7) ∧ (b11 = true → b9 = true ∧ b6 = true) ∧ (b12 = true → b10 = true ∧ b7 = true) ∧ (b13 = true → x9_13 = .int .i64 1) ∧ (b9 = true → b10 = true → x9_9 ≠ x9_10)) (by kernel_rfl) (by kernel_rfl) ?hs ?h0 ?hstep ?hQ
        case hs => rintro l a W ⟨b0, b1, b2, b3, b4, b5, b6, b7, b8, b9, b10, b11, b12, b13, x9_0, x9_1, x9_2, x9_3, x9_4, x9_5, x9_6, x9_7, x9_8, x9_9, x9_10, x9_13, rfl, rfl, hup, hF0, hF1, hF2, hF3, hF4, hF5, hF6, hF7, hF8, hF9, hF10, hF11, hF12, hF13, hN9x10⟩; rfl
        case h0 => exact ⟨false, false, false, false, false, false, false, false, false, false, false, false, false, false, undef, undef, undef, undef, undef, undef, undef, undef, undef, undef, undef, undef, rfl, rfl, (Up.refl W8_).drew, (fun h => by cases h), (fun h => by cases h), (fun h => by cases h), (fun h => by cases h), (fun h => by cases h), (fun h => by cases h), (fun h => by cases h), (fun h => by cases h), (fun h => by cases h), (fun h => by cases h), (fun h => by cases h), (fun h => by cases h), (fun h => by cases h), (fun h => by cases h), (fun h => by cases h)⟩
        case hstep =>
          rintro l a W ⟨b0, b1, b2, b3, b4, b5, b6, b7, b8, b9, b10, b11, b12, b13, x9_0, x9_1, x9_2, x9_3, x9_4, x9_5, x9_6, x9_7, x9_8, x9_9, x9_10, x9_13, rfl, rfl, hup, hF0, hF1, hF2, hF3, hF4, hF5, hF6, hF7, hF8, hF9, hF10, hF11, hF12, hF13, hN9x10⟩ i hi
          have hlt : i < 14 := ready_lt hi
          have HF0 := hide hF0
          have HF1 := hide hF1
          have HF2 := hide hF2
          have HF3 := hide hF3
          have HF4 := hide hF4
          have HF5 := hide hF5
          have HF6 := hide hF6
          have HF7 := hide hF7
          have HF8 := hide hF8
          have HF9 := hide hF9
          have HF10 := hide hF10
          have HF11 := hide hF11
          have HF12 := hide hF12
          have HF13 := hide hF13
          have HN9x10 := hide hN9x10
          clear hF0 hF1 hF2 hF3 hF4 hF5 hF6 hF7 hF8 hF9 hF10 hF11 hF12 hF13 hN9x10
          have hcase : i = 0 ∨ i = 1 ∨ i = 2 ∨ i = 3 ∨ i = 4 ∨ i = 5 ∨ i = 6 ∨ i = 7 ∨ i = 8 ∨ i = 9 ∨ i = 10 ∨ i = 11 ∨ i = 12 ∨ i = 13 := by omega
          clear hlt
          rcases hcase with rfl | rfl | rfl | rfl | rfl | rfl | rfl | rfl | rfl | rfl | rfl | rfl | rfl | rfl
          · skip
            have k0 := hb1.up hup
            have k1 := k0.cell (i := 0) rfl
            have k2 := k0.cell (i := 1) rfl
            clear hi
            refine wpOp_step rfl (fun K hK => ?_)
            go_simp
            refine hK _ _ ?_
            clear hK K
            exact ⟨true, b1, b2, b3, b4, b5, b6, b7, b8, b9, b10, b11, b12, b13, .agg #[.bool s, .slice A n c], x9_1, x9_2, x9_3, x9_4, x9_5, x9_6, x9_7, x9_8, x9_9, x9_10, x9_13, rfl, rfl, hup, (fun _ => q0.up hup), HF1.out, HF2.out, HF3.out, HF4.out, HF5.out, HF6.out, HF7.out, HF8.out, HF9.out, HF10.out, HF11.out, HF12.out, HF13.out, HN9x10.out⟩
          · skip
            have hb : b0 = true := getB (l := [b0, b1, b2, b3, b4, b5, b6, b7, b8, b9, b10, b11, b12, b13]) (ready_dep hi rfl 0 (by kernel_rfl)) rfl
            have hx := hide (HF0.out hb)
            clear hb
            clear hi
            refine wpOp_step rfl (fun K hK => ?_)
            go_simp
            refine (ownR _ _ _ _ hx.out).mono ?_
            rintro e w1 ⟨v1, rfl, hv1, hup1⟩
            go_wp2_with fail
            exact ⟨b0, true, b2, b3, b4, b5, b6, b7, b8, b9, b10, b11, b12, b13, x9_0, v1, x9_2, x9_3, x9_4, x9_5, x9_6, x9_7, x9_8, x9_9, x9_10, x9_13, rfl, rfl, hup.trans hup1, (fun h => (HF0.out h).up hup1), (fun _ => hv1), (fun h => (HF2.out h).up hup1), (fun h => (HF3.out h).up hup1), (fun h => by obtain ⟨q0, q1, rq, r0, r1⟩ := HF4.out h; exact ⟨q0, q1, rq, r0.up hup1, r1.up hup1⟩), (fun h => by obtain ⟨q0, q1, rq, r0, r1⟩ := HF5.out h; exact ⟨q0, q1, rq, r0.up hup1, r1.up hup1⟩), (fun h => (HF6.out h).up hup1), (fun h => (HF7.out h).up hup1), HF8.out, (fun h => (HF9.out h).up hup1), (fun h => (HF10.out h).up hup1), HF11.out, HF12.out, HF13.out, HN9x10.out⟩
          · skip
            have k0 := hb2.up hup
            have k1 := k0.cell (i := 0) rfl
            have k2 := k0.cell (i := 1) rfl
            clear hi
            refine wpOp_step rfl (fun K hK => ?_)
            go_simp
            refine hK _ _ ?_
            clear hK K
            exact ⟨b0, b1, true, b3, b4, b5, b6, b7, b8, b9, b10, b11, b12, b13, x9_0, x9_1, .agg #[.bool t, .slice C m d], x9_3, x9_4, x9_5, x9_6, x9_7, x9_8, x9_9, x9_10, x9_13, rfl, rfl, hup, HF0.out, HF1.out, (fun _ => q1.up hup), HF3.out, HF4.out, HF5.out, HF6.out, HF7.out, HF8.out, HF9.out, HF10.out, HF11.out, HF12.out, HF13.out, HN9x10.out⟩
          · skip
            have hb : b2 = true := getB (l := [b0, b1, b2, b3, b4, b5, b6, b7, b8, b9, b10, b11, b12, b13]) (ready_dep hi rfl 2 (by kernel_rfl)) rfl
            have hx := hide (HF2.out hb)
            clear hb
            clear hi
            refine wpOp_step rfl (fun K hK => ?_)
            go_simp
            refine (ownR _ _ _ _ hx.out).mono ?_
            rintro e w1 ⟨v1, rfl, hv1, hup1⟩
            go_wp2_with fail
            exact ⟨b0, b1, b2, true, b4, b5, b6, b7, b8, b9, b10, b11, b12, b13, x9_0, x9_1, x9_2, v1, x9_4, x9_5, x9_6, x9_7, x9_8, x9_9, x9_10, x9_13, rfl, rfl, hup.trans hup1, (fun h => (HF0.out h).up hup1), (fun h => (HF1.out h).up hup1), (fun h => (HF2.out h).up hup1), (fun _ => hv1), (fun h => by obtain ⟨q0, q1, rq, r0, r1⟩ := HF4.out h; exact ⟨q0, q1, rq, r0.up hup1, r1.up hup1⟩), (fun h => by obtain ⟨q0, q1, rq, r0, r1⟩ := HF5.out h; exact ⟨q0, q1, rq, r0.up hup1, r1.up hup1⟩), (fun h => (HF6.out h).up hup1), (fun h => (HF7.out h).up hup1), HF8.out, (fun h => (HF9.out h).up hup1), (fun h => (HF10.out h).up hup1), HF11.out, HF12.out, HF13.out, HN9x10.out⟩
          · skip
            have hb0q : b1 = true := getB (l := [b0, b1, b2, b3, b4, b5, b6, b7, b8, b9, b10, b11, b12, b13]) (ready_dep hi rfl 1 (by kernel_rfl)) rfl
            have hx0 := hide (HF1.out hb0q)
            clear hb0q
            have hb1q : b3 = true := getB (l := [b0, b1, b2, b3, b4, b5, b6, b7, b8, b9, b10, b11, b12, b13]) (ready_dep hi rfl 3 (by kernel_rfl)) rfl
            have hx1 := hide (HF3.out hb1q)
            clear hb1q
            clear hi
            refine wpOp_step rfl (fun K hK => ?_)
            go_simp
            refine (divZ _ _ s t ls ks _ HB hx0.out hx1.out).mono ?_
            rintro e w1 ⟨v0, v1, rfl, hv0, hv1, hup1⟩
            go_wp2_with fail
            exact ⟨b0, b1, b2, b3, true, b5, b6, b7, b8, b9, b10, b11, b12, b13, x9_0, x9_1, x9_2, x9_3, .tuple #[v0, v1, .int .i64 1], x9_5, x9_6, x9_7, x9_8, x9_9, x9_10, x9_13, rfl, rfl, hup.trans hup1, (fun h => (HF0.out h).up hup1), (fun h => (HF1.out h).up hup1), (fun h => (HF2.out h).up hup1), (fun h => (HF3.out h).up hup1), (fun _ => ⟨v0, v1, rfl, hv0.mono (Nat.zero_le _), hv1.mono (Nat.zero_le _)⟩), (fun h => by obtain ⟨q0, q1, rq, r0, r1⟩ := HF5.out h; exact ⟨q0, q1, rq, r0.up hup1, r1.up hup1⟩), (fun h => (HF6.out h).up hup1), (fun h => (HF7.out h).up hup1), HF8.out, (fun h => (HF9.out h).up hup1), (fun h => (HF10.out h).up hup1), HF11.out, HF12.out, HF13.out, HN9x10.out⟩
          · skip
            have hb : b4 = true := getB (l := [b0, b1, b2, b3, b4, b5, b6, b7, b8, b9, b10, b11, b12, b13]) (ready_dep hi rfl 4 (by kernel_rfl)) rfl
            have hx := hide (HF4.out hb)
            clear hb
            clear hi
            refine wpOp_step rfl (fun K hK => ?_)
            go_simp
            refine hK _ _ ?_
            clear hK K
            exact ⟨b0, b1, b2, b3, b4, true, b6, b7, b8, b9, b10, b11, b12, b13, x9_0, x9_1, x9_2, x9_3, x9_4, x9_4, x9_6, x9_7, x9_8, x9_9, x9_10, x9_13, rfl, rfl, hup, HF0.out, HF1.out, HF2.out, HF3.out, HF4.out, (fun _ => hx.out), HF6.out, HF7.out, HF8.out, HF9.out, HF10.out, HF11.out, HF12.out, HF13.out, HN9x10.out⟩
          · skip
            have hb : b5 = true := getB (l := [b0, b1, b2, b3, b4, b5, b6, b7, b8, b9, b10, b11, b12, b13]) (ready_dep hi rfl 5 (by kernel_rfl)) rfl
            have Hb := hide hb
            obtain ⟨v0, v1, hxe, hv0, hv1⟩ := HF5.out hb
            clear hb
            subst hxe
            have hn := ready_not hi
            have hst11 : b11 = false := by
              cases e : b11 with
              | false => rfl
              | true => have h5 := (HF11.out e).2; rw [h5] at hn; cases hn
            have Hst11 := hide hst11
            clear hst11
            clear hn
            clear hi
            refine wpOp_step rfl (fun K hK => ?_)
            go_simp
            refine hK _ _ ?_
            clear hK K
            exact ⟨b0, b1, b2, b3, b4, b5, true, b7, b8, b9, b10, b11, b12, b13, x9_0, x9_1, x9_2, x9_3, x9_4, .tuple #[v0, v1, .int .i64 1], v0, x9_7, x9_8, x9_9, x9_10, x9_13, rfl, rfl, hup, HF0.out, HF1.out, HF2.out, HF3.out, HF4.out, HF5.out, (fun _ => hv0), HF7.out, HF8.out, (fun h => by rw [Hst11.out] at *; obtain ⟨g, s, A, n, c, h1, h2, h3, _⟩ := HF9.out h; exact ⟨g, s, A, n, c, h1, h2, h3.up (Up.refl _), fun h => by cases h⟩), HF10.out, (fun h => ⟨(HF11.out h).1, rfl⟩), HF12.out, HF13.out, HN9x10.out⟩
          · skip
            have hb : b5 = true := getB (l := [b0, b1, b2, b3, b4, b5, b6, b7, b8, b9, b10, b11, b12, b13]) (ready_dep hi rfl 5 (by kernel_rfl)) rfl
            have Hb := hide hb
            obtain ⟨v0, v1, hxe, hv0, hv1⟩ := HF5.out hb
            clear hb
            subst hxe
            have hn := ready_not hi
            have hst12 : b12 = false := by
              cases e : b12 with
              | false => rfl
              | true => have h5 := (HF12.out e).2; rw [h5] at hn; cases hn
            have Hst12 := hide hst12
            clear hst12
            clear hn
            clear hi
            refine wpOp_step rfl (fun K hK => ?_)
            go_simp
            refine hK _ _ ?_
            clear hK K
            exact ⟨b0, b1, b2, b3, b4, b5, b6, true, b8, b9, b10, b11, b12, b13, x9_0, x9_1, x9_2, x9_3, x9_4, .tuple #[v0, v1, .int .i64 1], x9_6, v1, x9_8, x9_9, x9_10, x9_13, rfl, rfl, hup, HF0.out, HF1.out, HF2.out, HF3.out, HF4.out, HF5.out, HF6.out, (fun _ => hv1), HF8.out, HF9.out, (fun h => by rw [Hst12.out] at *; obtain ⟨g, s, A, n, c, h1, h2, h3, _⟩ := HF10.out h; exact ⟨g, s, A, n, c, h1, h2, h3.up (Up.refl _), fun h => by cases h⟩), HF11.out, (fun h => ⟨(HF12.out h).1, rfl⟩), HF13.out, HN9x10.out⟩
          · skip
            have hb : b5 = true := getB (l := [b0, b1, b2, b3, b4, b5, b6, b7, b8, b9, b10, b11, b12, b13]) (ready_dep hi rfl 5 (by kernel_rfl)) rfl
            have Hb := hide hb
            obtain ⟨v0, v1, hxe, hv0, hv1⟩ := HF5.out hb
            clear hb
            subst hxe
            clear hi
            refine wpOp_step rfl (fun K hK => ?_)
            go_simp
            refine hK _ _ ?_
            clear hK K
            exact ⟨b0, b1, b2, b3, b4, b5, b6, b7, true, b9, b10, b11, b12, b13, x9_0, x9_1, x9_2, x9_3, x9_4, .tuple #[v0, v1, .int .i64 1], x9_6, x9_7, .int .i64 1, x9_9, x9_10, x9_13, rfl, rfl, hup, HF0.out, HF1.out, HF2.out, HF3.out, HF4.out, HF5.out, HF6.out, HF7.out, (fun _ => rfl), HF9.out, HF10.out, HF11.out, HF12.out, HF13.out, HN9x10.out⟩
          · skip
            have hn := ready_not hi
            have hst11 : b11 = false := by
              cases e : b11 with
              | false => rfl
              | true => have h5 := (HF11.out e).1; rw [h5] at hn; cases hn
            have Hst11 := hide hst11
            clear hst11
            clear hn
            clear hi
            have hsz := hup.size
            have hupA := (Up.refl W).alloc (.cells #[.bool false, .slice none 0 0] 25)
            refine wpOp_step rfl (fun K hK => ?_)
            go_simp
            refine hK _ _ ?_
            clear hK K
            exact ⟨b0, b1, b2, b3, b4, b5, b6, b7, b8, true, b10, b11, b12, b13, x9_0, x9_1, x9_2, x9_3, x9_4, x9_5, x9_6, x9_7, x9_8, .pointer (some ⟨W.heap.size, 0, none⟩), x9_10, x9_13, rfl, rfl, hup.trans hupA, (fun h => (HF0.out h).up hupA), (fun h => (HF1.out h).up hupA), (fun h => (HF2.out h).up hupA), (fun h => (HF3.out h).up hupA), (fun h => by obtain ⟨q0, q1, rq, r0, r1⟩ := HF4.out h; exact ⟨q0, q1, rq, r0.up hupA, r1.up hupA⟩), (fun h => by obtain ⟨q0, q1, rq, r0, r1⟩ := HF5.out h; exact ⟨q0, q1, rq, r0.up hupA, r1.up hupA⟩), (fun h => (HF6.out h).up hupA), (fun h => (HF7.out h).up hupA), HF8.out, (fun _ => by rw [Hst11.out]; exact Box.new _ W _ hsz), (fun h => (HF10.out h).up hupA), (fun h => ⟨rfl, (HF11.out h).2⟩), HF12.out, HF13.out, (fun _ h => (HF10.out h).ne_new.symm)⟩
          · skip
            have hn := ready_not hi
            have hst12 : b12 = false := by
              cases e : b12 with
              | false => rfl
              | true => have h5 := (HF12.out e).1; rw [h5] at hn; cases hn
            have Hst12 := hide hst12
            clear hst12
            clear hn
            clear hi
            have hsz := hup.size
            have hupA := (Up.refl W).alloc (.cells #[.bool false, .slice none 0 0] 25)
            refine wpOp_step rfl (fun K hK => ?_)
            go_simp
            refine hK _ _ ?_
            clear hK K
            exact ⟨b0, b1, b2, b3, b4, b5, b6, b7, b8, b9, true, b11, b12, b13, x9_0, x9_1, x9_2, x9_3, x9_4, x9_5, x9_6, x9_7, x9_8, x9_9, .pointer (some ⟨W.heap.size, 0, none⟩), x9_13, rfl, rfl, hup.trans hupA, (fun h => (HF0.out h).up hupA), (fun h => (HF1.out h).up hupA), (fun h => (HF2.out h).up hupA), (fun h => (HF3.out h).up hupA), (fun h => by obtain ⟨q0, q1, rq, r0, r1⟩ := HF4.out h; exact ⟨q0, q1, rq, r0.up hupA, r1.up hupA⟩), (fun h => by obtain ⟨q0, q1, rq, r0, r1⟩ := HF5.out h; exact ⟨q0, q1, rq, r0.up hupA, r1.up hupA⟩), (fun h => (HF6.out h).up hupA), (fun h => (HF7.out h).up hupA), HF8.out, (fun h => (HF9.out h).up hupA), (fun _ => by rw [Hst12.out]; exact Box.new _ W _ hsz), HF11.out, (fun h => ⟨rfl, (HF12.out h).2⟩), HF13.out, (fun h _ => (HF9.out h).ne_new)⟩
          · skip
            have hb2 : b9 = true := getB (l := [b0, b1, b2, b3, b4, b5, b6, b7, b8, b9, b10, b11, b12, b13]) (ready_dep hi rfl 9 (by kernel_rfl)) rfl
            have hb1 : b6 = true := getB (l := [b0, b1, b2, b3, b4, b5, b6, b7, b8, b9, b10, b11, b12, b13]) (ready_dep hi rfl 6 (by kernel_rfl)) rfl
            clear hi
            obtain ⟨s9, A9, n9, c9, hxc⟩ := (HF6.out hb1).agg
            subst hxc
            obtain ⟨g, s8, A8, n8, c8, hxb, hgB, hbk, _⟩ := HF9.out hb2
            subst hxb
            have f1 := hbk.cell (i := 0) rfl
            have f2 := hbk.cell (i := 1) rfl
            have f3 := hbk.frozen 0
            have f4 := hbk.frozen 1
            have Hb1 := hide hb1
            have Hb2 := hide hb2
            have hsz := hup.size
            clear hb1 hb2
            refine wpOp_step rfl (fun K hK => ?_)
            go_simp
            refine hK _ _ ?_
            clear hK K
            exact ⟨b0, b1, b2, b3, b4, b5, b6, b7, b8, b9, b10, true, b12, b13, x9_0, x9_1, x9_2, x9_3, x9_4, x9_5, .agg #[.bool s9, .slice A9 n9 c9], x9_7, x9_8, .pointer (some ⟨g, 0, none⟩), x9_10, x9_13, rfl, rfl, hup.two (g := g) hgB _ _, (fun h => (HF0.out h).boxed hbk _ _), (fun h => (HF1.out h).boxed hbk _ _), (fun h => (HF2.out h).boxed hbk _ _), (fun h => (HF3.out h).boxed hbk _ _), (fun h => by obtain ⟨q0, q1, rq, r0, r1⟩ := HF4.out h; exact ⟨q0, q1, rq, r0.boxed hbk _ _, r1.boxed hbk _ _⟩), (fun h => by obtain ⟨q0, q1, rq, r0, r1⟩ := HF5.out h; exact ⟨q0, q1, rq, r0.boxed hbk _ _, r1.boxed hbk _ _⟩), (fun h => (HF6.out h).boxed hbk _ _), (fun h => (HF7.out h).boxed hbk _ _), HF8.out, (fun _ => hbk.fill hgB), (fun h => (HF10.out h).far ((HN9x10.out Hb2.out h).symm) _ _), (fun _ => ⟨Hb2.out, Hb1.out⟩), HF12.out, HF13.out, HN9x10.out⟩
          · skip
            have hb2 : b10 = true := getB (l := [b0, b1, b2, b3, b4, b5, b6, b7, b8, b9, b10, b11, b12, b13]) (ready_dep hi rfl 10 (by kernel_rfl)) rfl
            have hb1 : b7 = true := getB (l := [b0, b1, b2, b3, b4, b5, b6, b7, b8, b9, b10, b11, b12, b13]) (ready_dep hi rfl 7 (by kernel_rfl)) rfl
            clear hi
            obtain ⟨s9, A9, n9, c9, hxc⟩ := (HF7.out hb1).agg
            subst hxc
            obtain ⟨g, s8, A8, n8, c8, hxb, hgB, hbk, _⟩ := HF10.out hb2
            subst hxb
            have f1 := hbk.cell (i := 0) rfl
            have f2 := hbk.cell (i := 1) rfl
            have f3 := hbk.frozen 0
            have f4 := hbk.frozen 1
            have Hb1 := hide hb1
            have Hb2 := hide hb2
            have hsz := hup.size
            clear hb1 hb2
            refine wpOp_step rfl (fun K hK => ?_)
            go_simp
            refine hK _ _ ?_
            clear hK K
            exact ⟨b0, b1, b2, b3, b4, b5, b6, b7, b8, b9, b10, b11, true, b13, x9_0, x9_1, x9_2, x9_3, x9_4, x9_5, x9_6, .agg #[.bool s9, .slice A9 n9 c9], x9_8, x9_9, .pointer (some ⟨g, 0, none⟩), x9_13, rfl, rfl, hup.two (g := g) hgB _ _, (fun h => (HF0.out h).boxed hbk _ _), (fun h => (HF1.out h).boxed hbk _ _), (fun h => (HF2.out h).boxed hbk _ _), (fun h => (HF3.out h).boxed hbk _ _), (fun h => by obtain ⟨q0, q1, rq, r0, r1⟩ := HF4.out h; exact ⟨q0, q1, rq, r0.boxed hbk _ _, r1.boxed hbk _ _⟩), (fun h => by obtain ⟨q0, q1, rq, r0, r1⟩ := HF5.out h; exact ⟨q0, q1, rq, r0.boxed hbk _ _, r1.boxed hbk _ _⟩), (fun h => (HF6.out h).boxed hbk _ _), (fun h => (HF7.out h).boxed hbk _ _), HF8.out, (fun h => (HF9.out h).far (HN9x10.out h Hb2.out) _ _), (fun _ => hbk.fill hgB), HF11.out, (fun _ => ⟨Hb2.out, Hb1.out⟩), HF13.out, HN9x10.out⟩
          · skip
            have hb : b8 = true := getB (l := [b0, b1, b2, b3, b4, b5, b6, b7, b8, b9, b10, b11, b12, b13]) (ready_dep hi rfl 8 (by kernel_rfl)) rfl
            have hx := hide (HF8.out hb)
            clear hb
            clear hi
            refine wpOp_step rfl (fun K hK => ?_)
            go_simp
            refine hK _ _ ?_
            clear hK K
            exact ⟨b0, b1, b2, b3, b4, b5, b6, b7, b8, b9, b10, b11, b12, true, x9_0, x9_1, x9_2, x9_3, x9_4, x9_5, x9_6, x9_7, x9_8, x9_9, x9_10, x9_8, rfl, rfl, hup, HF0.out, HF1.out, HF2.out, HF3.out, HF4.out, HF5.out, HF6.out, HF7.out, HF8.out, HF9.out, HF10.out, HF11.out, HF12.out, (fun _ => hx.out), HN9x10.out⟩
        case hQ =>
          rintro l a W9_ ⟨b0, b1, b2, b3, b4, b5, b6, b7, b8, b9, b10, b11, b12, b13, x9_0, x9_1, x9_2, x9_3, x9_4, x9_5, x9_6, x9_7, x9_8, x9_9, x9_10, x9_13, rfl, rfl, hup, hF0, hF1, hF2, hF3, hF4, hF5, hF6, hF7, hF8, hF9, hF10, hF11, hF12, hF13, hN9x10⟩ hall
          have hb0 : b0 = true := getB (l := [b0, b1, b2, b3, b4, b5, b6, b7, b8, b9, b10, b11, b12, b13]) (hall 0 (by decide)) rfl
          have hb1 : b1 = true := getB (l := [b0, b1, b2, b3, b4, b5, b6, b7, b8, b9, b10, b11, b12, b13]) (hall 1 (by decide)) rfl
          have hb2 : b2 = true := getB (l := [b0, b1, b2, b3, b4, b5, b6, b7, b8, b9, b10, b11, b12, b13]) (hall 2 (by decide)) rfl
          have hb3 : b3 = true := getB (l := [b0, b1, b2, b3, b4, b5, b6, b7, b8, b9, b10, b11, b12, b13]) (hall 3 (by decide)) rfl
          have hb4 : b4 = true := getB (l := [b0, b1, b2, b3, b4, b5, b6, b7, b8, b9, b10, b11, b12, b13]) (hall 4 (by decide)) rfl
          have hb5 : b5 = true := getB (l := [b0, b1, b2, b3, b4, b5, b6, b7, b8, b9, b10, b11, b12, b13]) (hall 5 (by decide)) rfl
          have hb6 : b6 = true := getB (l := [b0, b1, b2, b3, b4, b5, b6, b7, b8, b9, b10, b11, b12, b13]) (hall 6 (by decide)) rfl
          have hb7 : b7 = true := getB (l := [b0, b1, b2, b3, b4, b5, b6, b7, b8, b9, b10, b11, b12, b13]) (hall 7 (by decide)) rfl
          have hb8 : b8 = true := getB (l := [b0, b1, b2, b3, b4, b5, b6, b7, b8, b9, b10, b11, b12, b13]) (hall 8 (by decide)) rfl
          have hb9 : b9 = true := getB (l := [b0, b1, b2, b3, b4, b5, b6, b7, b8, b9, b10, b11, b12, b13]) (hall 9 (by decide)) rfl
          have hb10 : b10 = true := getB (l := [b0, b1, b2, b3, b4, b5, b6, b7, b8, b9, b10, b11, b12, b13]) (hall 10 (by decide)) rfl
          have hb11 : b11 = true := getB (l := [b0, b1, b2, b3, b4, b5, b6, b7, b8, b9, b10, b11, b12, b13]) (hall 11 (by decide)) rfl
          have hb12 : b12 = true := getB (l := [b0, b1, b2, b3, b4, b5, b6, b7, b8, b9, b10, b11, b12, b13]) (hall 12 (by decide)) rfl
          have hb13 : b13 = true := getB (l := [b0, b1, b2, b3, b4, b5, b6, b7, b8, b9, b10, b11, b12, b13]) (hall 13 (by decide)) rfl
          subst hb0 hb1 hb2 hb3 hb4 hb5 hb6 hb7 hb8 hb9 hb10 hb11 hb12 hb13
          clear hall
          have m0 := hF0 rfl
          have m1 := hF1 rfl
          have m2 := hF2 rfl
          have m3 := hF3 rfl
          have m4 := hF4 rfl
          have m5 := hF5 rfl
          have m6 := hF6 rfl
          have m7 := hF7 rfl
          have m8 := hF8 rfl
          have m9 := hF9 rfl
          have m10 := hF10 rfl
          have m13 := hF13 rfl
          clear hF0 hF1 hF2 hF3 hF4 hF5 hF6 hF7 hF8 hF9 hF10 hF11 hF12 hF13 hN9x10
          obtain ⟨gr4, sr4, Ar4, nr4, cr4, rfl, hgr4, hkr4, her4⟩ := m9
          obtain rfl := her4 rfl
          clear her4 hgr4
          have hir4 := m6
          obtain ⟨gr5, sr5, Ar5, nr5, cr5, rfl, hgr5, hkr5, her5⟩ := m10
          obtain rfl := her5 rfl
          clear her5 hgr5
          have hir5 := m7
          obtain rfl := m8
          obtain rfl := m13
          clear m0 m1 m2 m3 m4 m5 m6 m7
          have hb1 := hb1.up hup
          have hb2 := hb2.up hup
          have hkz := hkz.up hup
          have hkr1 := hkr1.up hup
          have hkr2 := hkr2.up hup
          have hkr3 := hkr3.up hup
          have q0 := q0.up hup
          have q1 := q1.up hup
          have hiz := hiz.up hup
          have hir1 := hir1.up hup
          have hir2 := hir2.up hup
          have hir3 := hir3.up hup
          have hupw := hupw.trans hup
          clear hup
          have hb1a := hb1.cell (i := 0) rfl
          have hb1b := hb1.cell (i := 1) rfl
          have hb1l := hb1.lt
          have hb2a := hb2.cell (i := 0) rfl
          have hb2b := hb2.cell (i := 1) rfl
          have hb2l := hb2.lt
          have hkza := hkz.cell (i := 0) rfl
          have hkzb := hkz.cell (i := 1) rfl
          have hkzl := hkz.lt
          have hkr1a := hkr1.cell (i := 0) rfl
          have hkr1b := hkr1.cell (i := 1) rfl
          have hkr1l := hkr1.lt
          have hkr2a := hkr2.cell (i := 0) rfl
          have hkr2b := hkr2.cell (i := 1) rfl
          have hkr2l := hkr2.lt
          have hkr3a := hkr3.cell (i := 0) rfl
          have hkr3b := hkr3.cell (i := 1) rfl
          have hkr3l := hkr3.lt
          have hkr4a := hkr4.cell (i := 0) rfl
          have hkr4b := hkr4.cell (i := 1) rfl
          have hkr4l := hkr4.lt
          have hkr5a := hkr5.cell (i := 0) rfl
          have hkr5b := hkr5.cell (i := 1) rfl
          have hkr5l := hkr5.lt
          go_wp2_with fail
          clear hb1a hb1b hb1l hb2a hb2b hb2l hkza hkzb hkzl hkr1a hkr1b hkr1l hkr2a hkr2b hkr2l hkr3a hkr3b hkr3l hkr4a hkr4b hkr4l hkr5a hkr5b hkr5l
          refine region_inv (fun l a W => ∃ (b0 b1 b2 b3 b4 b5 b6 b7 b8 b9 b10 : Bool) (x10_0 x10_1 x10_2 x10_3 x10_4 x10_5 x10_6 x10_7 x10_8 x10_10 : Value), l = #[b0, b1, b2, b3, b4, b5, b6, b7, b8, b9, b10] ∧ a = { tmps := #[.agg #[.bool s, .slice A n c], .agg #[.bool t, .slice C m d], .pointer (some ⟨w.heap.size, 0, none⟩), .pointer (some ⟨w.heap.size + 1, 0, none⟩), .bool false, .pointer (some ⟨w4_.heap.size, 0, none⟩), .pointer (some ⟨gr1, 0, none⟩), .int .i64 1, .pointer (some ⟨gr2, 0, none⟩), .int .i64 1, .pointer (some ⟨gr3, 0, none⟩), .int .i64 1, .pointer (some ⟨gr4, 0, none⟩), .pointer (some ⟨gr5, 0, none⟩), .int .i64 1, x10_8, x10_10, undef, undef, undef, undef, undef, undef, undef, .bool true, .bool false, .bool false, .agg #[.bool s, .slice A n c], .bool true, .bool false, .bool false, .bool false, .agg #[.bool t, .slice C m d], .bool true, .bool false, .bool false, .bool false, .agg #[.bool s, .slice A n c], .bool false, .bool false, undef, undef, .bool false, .bool false, undef, .agg #[.bool false, .slice none 0 0], x6_5, x6_0, x6_1, x6_2, x6_3, x6_4, .agg #[.bool sr1, .slice Ar1 nr1 cr1], .int .i64 1, x7_5, x7_0, x7_1, x7_2, x7_3, x7_4, .agg #[.bool sr2, .slice Ar2 nr2 cr2], .int .i64 1, x8_5, x8_0, x8_1, x8_2, x8_3, x8_4, .agg #[.bool sr3, .slice Ar3 nr3 cr3], .int .i64 1, x9_5, x9_0, x9_1, x9_2, x9_3, x9_4, .agg #[.bool sr4, .slice Ar4 nr4 cr4], .agg #[.bool sr5, .slice Ar5 nr5 cr5], .int .i64 1, x10_5, x10_0, x10_1, x10_2, x10_3, x10_4, x10_6, x10_7, undef, undef, undef, undef, undef, undef, undef, undef, undef, undef, undef, undef, undef, undef, undef, undef, undef, undef, undef, undef, undef, undef, undef, undef, undef, undef, undef, undef, undef, undef, undef, undef, undef, undef, undef, undef, undef, undef, undef, undef, undef, undef, undef, undef, undef, undef, undef, undef, undef, undef, undef, undef, undef, undef, undef, undef, undef, undef, undef, undef, undef, undef, undef, undef, undef, undef, undef, undef, undef, undef, undef, undef, undef], defers := [] } ∧ Up W9_ W ∧ (b0 = true → Rw W x10_0 s ls) ∧ (b1 = true → Rw W x10_1 s ls) ∧ (b2 = true → Rw W x10_2 t ks) ∧ (b3 = true → Rw W x10_3 t ks) ∧ (b4 = true → ∃ v0 : Value, x10_4 = .tuple #[v0, .int .i64 1] ∧ IsInt 0 W v0 (0)) ∧ (b5 = true → ∃ v0 : Value, x10_5 = .tuple #[v0, .int .i64 1] ∧ IsInt 0 W v0 (0)) ∧ (b6 = true → IsInt 0 W x10_6 (0)) ∧ (b7 = true → x10_7 = .int .i64 1) ∧ (b8 = true → Box (W9_.heap.size) W x10_8 b9 x10_6) ∧ (b9 = true → b8 = true ∧ b6 = true) ∧ (b10 = true → x10_10 = .int .i64 1)) (by kernel_rfl) (by kernel_rfl) ?hs ?h0 ?hstep ?hQ
          case hs => rintro l a W ⟨b0, b1, b2, b3, b4, b5, b6, b7, b8, b9, b10, x10_0, x10_1, x10_2, x10_3, x10_4, x10_5, x10_6, x10_7, x10_8, x10_10, rfl, rfl, hup, hF0, hF1, hF2, hF3, hF4, hF5, hF6, hF7, hF8, hF9, hF10⟩; rfl
          case h0 => exact ⟨false, false, false, false, false, false, false, false, false, false, false, undef, undef, undef, undef, undef, undef, undef, undef, undef, undef, rfl, rfl, (Up.refl W9_).drew, (fun h => by cases h), (fun h => by cases h), (fun h => by cases h), (fun h => by cases h), (fun h => by cases h), (fun h => by cases h), (fun h => by cases h), (fun h => by cases h), (fun h => by cases h), (fun h => by cases h), (fun h => by cases h)⟩
          case hstep =>
            rintro l a W ⟨b0, b1, b2, b3, b4, b5, b6, b7, b8, b9, b10, x10_0, x10_1, x10_2, x10_3, x10_4, x10_5, x10_6, x10_7, x10_8, x10_10, rfl, rfl, hup, hF0, hF1, hF2, hF3, hF4, hF5, hF6, hF7, hF8, hF9, hF10⟩ i hi
            have hlt : i < 11 := ready_lt hi
            have HF0 := hide hF0
            have HF1 := hide hF1
            have HF2 := hide hF2
            have HF3 := hide hF3
            have HF4 := hide hF4
            have HF5 := hide hF5
            have HF6 := hide hF6
            have HF7 := hide hF7
            have HF8 := hide hF8
            have HF9 := hide hF9
            have HF10 := hide hF10
            clear hF0 hF1 hF2 hF3 hF4 hF5 hF6 hF7 hF8 hF9 hF10
            have hcase : i = 0 ∨ i = 1 ∨ i = 2 ∨ i = 3 ∨ i = 4 ∨ i = 5 ∨ i = 6 ∨ i = 7 ∨ i = 8 ∨ i = 9 ∨ i = 10 := by omega
            clear hlt
            rcases hcase with rfl | rfl | rfl | rfl | rfl | rfl | rfl | rfl | rfl | rfl | rfl
            · skip
              have k0 := hb1.up hup
              have k1 := k0.cell (i := 0) rfl
              have k2 := k0.cell (i := 1) rfl
              clear hi
              refine wpOp_step rfl (fun K hK => ?_)
              go_simp
              refine hK _ _ ?_
              clear hK K
              exact ⟨true, b1, b2, b3, b4, b5, b6, b7, b8, b9, b10, .agg #[.bool s, .slice A n c], x10_1, x10_2, x10_3, x10_4, x10_5, x10_6, x10_7, x10_8, x10_10, rfl, rfl, hup, (fun _ => q0.up hup), HF1.out, HF2.out, HF3.out, HF4.out, HF5.out, HF6.out, HF7.out, HF8.out, HF9.out, HF10.out⟩
            · skip
              have hb : b0 = true := getB (l := [b0, b1, b2, b3, b4, b5, b6, b7, b8, b9, b10]) (ready_dep hi rfl 0 (by kernel_rfl)) rfl
              have hx := hide (HF0.out hb)
              clear hb
              clear hi
              refine wpOp_step rfl (fun K hK => ?_)
              go_simp
              refine (ownR _ _ _ _ hx.out).mono ?_
              rintro e w1 ⟨v1, rfl, hv1, hup1⟩
              go_wp2_with fail
              exact ⟨b0, true, b2, b3, b4, b5, b6, b7, b8, b9, b10, x10_0, v1, x10_2, x10_3, x10_4, x10_5, x10_6, x10_7, x10_8, x10_10, rfl, rfl, hup.trans hup1, (fun h => (HF0.out h).up hup1), (fun _ => hv1), (fun h => (HF2.out h).up hup1), (fun h => (HF3.out h).up hup1), (fun h => by obtain ⟨q0, rq, r0⟩ := HF4.out h; exact ⟨q0, rq, r0.up hup1⟩), (fun h => by obtain ⟨q0, rq, r0⟩ := HF5.out h; exact ⟨q0, rq, r0.up hup1⟩), (fun h => (HF6.out h).up hup1), HF7.out, (fun h => (HF8.out h).up hup1), HF9.out, HF10.out⟩
            · skip
              have k0 := hb2.up hup
              have k1 := k0.cell (i := 0) rfl
              have k2 := k0.cell (i := 1) rfl
              clear hi
              refine wpOp_step rfl (fun K hK => ?_)
              go_simp
              refine hK _ _ ?_
              clear hK K
              exact ⟨b0, b1, true, b3, b4, b5, b6, b7, b8, b9, b10, x10_0, x10_1, .agg #[.bool t, .slice C m d], x10_3, x10_4, x10_5, x10_6, x10_7, x10_8, x10_10, rfl, rfl, hup, HF0.out, HF1.out, (fun _ => q1.up hup), HF3.out, HF4.out, HF5.out, HF6.out, HF7.out, HF8.out, HF9.out, HF10.out⟩
            · skip
              have hb : b2 = true := getB (l := [b0, b1, b2, b3, b4, b5, b6, b7, b8, b9, b10]) (ready_dep hi rfl 2 (by kernel_rfl)) rfl
              have hx := hide (HF2.out hb)
              clear hb
              clear hi
              refine wpOp_step rfl (fun K hK => ?_)
              go_simp
              refine (ownR _ _ _ _ hx.out).mono ?_
              rintro e w1 ⟨v1, rfl, hv1, hup1⟩
              go_wp2_with fail
              exact ⟨b0, b1, b2, true, b4, b5, b6, b7, b8, b9, b10, x10_0, x10_1, x10_2, v1, x10_4, x10_5, x10_6, x10_7, x10_8, x10_10, rfl, rfl, hup.trans hup1, (fun h => (HF0.out h).up hup1), (fun h => (HF1.out h).up hup1), (fun h => (HF2.out h).up hup1), (fun _ => hv1), (fun h => by obtain ⟨q0, rq, r0⟩ := HF4.out h; exact ⟨q0, rq, r0.up hup1⟩), (fun h => by obtain ⟨q0, rq, r0⟩ := HF5.out h; exact ⟨q0, rq, r0.up hup1⟩), (fun h => (HF6.out h).up hup1), HF7.out, (fun h => (HF8.out h).up hup1), HF9.out, HF10.out⟩
            · skip
              have hb0q : b1 = true := getB (l := [b0, b1, b2, b3, b4, b5, b6, b7, b8, b9, b10]) (ready_dep hi rfl 1 (by kernel_rfl)) rfl
              have hx0 := hide (HF1.out hb0q)
              clear hb0q
              have hb1q : b3 = true := getB (l := [b0, b1, b2, b3, b4, b5, b6, b7, b8, b9, b10]) (ready_dep hi rfl 3 (by kernel_rfl)) rfl
              have hx1 := hide (HF3.out hb1q)
              clear hb1q
              clear hi
              refine wpOp_step rfl (fun K hK => ?_)
              go_simp
              refine (gcdZ _ _ s t ls ks _ HB hx0.out hx1.out).mono ?_
              rintro e w1 ⟨v0, rfl, hv0, hup1⟩
              go_wp2_with fail
              exact ⟨b0, b1, b2, b3, true, b5, b6, b7, b8, b9, b10, x10_0, x10_1, x10_2, x10_3, .tuple #[v0, .int .i64 1], x10_5, x10_6, x10_7, x10_8, x10_10, rfl, rfl, hup.trans hup1, (fun h => (HF0.out h).up hup1), (fun h => (HF1.out h).up hup1), (fun h => (HF2.out h).up hup1), (fun h => (HF3.out h).up hup1), (fun _ => ⟨v0, rfl, hv0.mono (Nat.zero_le _)⟩), (fun h => by obtain ⟨q0, rq, r0⟩ := HF5.out h; exact ⟨q0, rq, r0.up hup1⟩), (fun h => (HF6.out h).up hup1), HF7.out, (fun h => (HF8.out h).up hup1), HF9.out, HF10.out⟩
            · skip
              have hb : b4 = true := getB (l := [b0, b1, b2, b3, b4, b5, b6, b7, b8, b9, b10]) (ready_dep hi rfl 4 (by kernel_rfl)) rfl
              have hx := hide (HF4.out hb)
              clear hb
              clear hi
              refine wpOp_step rfl (fun K hK => ?_)
              go_simp
              refine hK _ _ ?_
              clear hK K
              exact ⟨b0, b1, b2, b3, b4, true, b6, b7, b8, b9, b10, x10_0, x10_1, x10_2, x10_3, x10_4, x10_4, x10_6, x10_7, x10_8, x10_10, rfl, rfl, hup, HF0.out, HF1.out, HF2.out, HF3.out, HF4.out, (fun _ => hx.out), HF6.out, HF7.out, HF8.out, HF9.out, HF10.out⟩
            · skip
              have hb : b5 = true := getB (l := [b0, b1, b2, b3, b4, b5, b6, b7, b8, b9, b10]) (ready_dep hi rfl 5 (by kernel_rfl)) rfl
              have Hb := hide hb
              obtain ⟨v0, hxe, hv0⟩ := HF5.out hb
              clear hb
              subst hxe
              have hn := ready_not hi
              have hst9 : b9 = false := by
                cases e : b9 with
                | false => rfl
                | true => have h5 := (HF9.out e).2; rw [h5] at hn; cases hn
              have Hst9 := hide hst9
              clear hst9
              clear hn
              clear hi
              refine wpOp_step rfl (fun K hK => ?_)
              go_simp
              refine hK _ _ ?_
              clear hK K
              exact ⟨b0, b1, b2, b3, b4, b5, true, b7, b8, b9, b10, x10_0, x10_1, x10_2, x10_3, x10_4, .tuple #[v0, .int .i64 1], v0, x10_7, x10_8, x10_10, rfl, rfl, hup, HF0.out, HF1.out, HF2.out, HF3.out, HF4.out, HF5.out, (fun _ => hv0), HF7.out, (fun h => by rw [Hst9.out] at *; obtain ⟨g, s, A, n, c, h1, h2, h3, _⟩ := HF8.out h; exact ⟨g, s, A, n, c, h1, h2, h3.up (Up.refl _), fun h => by cases h⟩), (fun h => ⟨(HF9.out h).1, rfl⟩), HF10.out⟩
            · skip
              have hb : b5 = true := getB (l := [b0, b1, b2, b3, b4, b5, b6, b7, b8, b9, b10]) (ready_dep hi rfl 5 (by kernel_rfl)) rfl
              have Hb := hide hb
              obtain ⟨v0, hxe, hv0⟩ := HF5.out hb
              clear hb
              subst hxe
              clear hi
              refine wpOp_step rfl (fun K hK => ?_)
              go_simp
              refine hK _ _ ?_
              clear hK K
              exact ⟨b0, b1, b2, b3, b4, b5, b6, true, b8, b9, b10, x10_0, x10_1, x10_2, x10_3, x10_4, .tuple #[v0, .int .i64 1], x10_6, .int .i64 1, x10_8, x10_10, rfl, rfl, hup, HF0.out, HF1.out, HF2.out, HF3.out, HF4.out, HF5.out, HF6.out, (fun _ => rfl), HF8.out, HF9.out, HF10.out⟩
            · skip
              have hn := ready_not hi
              have hst9 : b9 = false := by
                cases e : b9 with
                | false => rfl
                | true => have h5 := (HF9.out e).1; rw [h5] at hn; cases hn
              have Hst9 := hide hst9
              clear hst9
              clear hn
              clear hi
              have hsz := hup.size
              have hupA := (Up.refl W).alloc (.cells #[.bool false, .slice none 0 0] 25)
              refine wpOp_step rfl (fun K hK => ?_)
              go_simp
              refine hK _ _ ?_
              clear hK K
              exact ⟨b0, b1, b2, b3, b4, b5, b6, b7, true, b9, b10, x10_0, x10_1, x10_2, x10_3, x10_4, x10_5, x10_6, x10_7, .pointer (some ⟨W.heap.size, 0, none⟩), x10_10, rfl, rfl, hup.trans hupA, (fun h => (HF0.out h).up hupA), (fun h => (HF1.out h).up hupA), (fun h => (HF2.out h).up hupA), (fun h => (HF3.out h).up hupA), (fun h => by obtain ⟨q0, rq, r0⟩ := HF4.out h; exact ⟨q0, rq, r0.up hupA⟩), (fun h => by obtain ⟨q0, rq, r0⟩ := HF5.out h; exact ⟨q0, rq, r0.up hupA⟩), (fun h => (HF6.out h).up hupA), HF7.out, (fun _ => by rw [Hst9.out]; exact Box.new _ W _ hsz), (fun h => ⟨rfl, (HF9.out h).2⟩), HF10.out⟩
            · skip
              have hb2 : b8 = true := getB (l := [b0, b1, b2, b3, b4, b5, b6, b7, b8, b9, b10]) (ready_dep hi rfl 8 (by kernel_rfl)) rfl
              have hb1 : b6 = true := getB (l := [b0, b1, b2, b3, b4, b5, b6, b7, b8, b9, b10]) (ready_dep hi rfl 6 (by kernel_rfl)) rfl
              clear hi
              obtain ⟨s9, A9, n9, c9, hxc⟩ := (HF6.out hb1).agg
              subst hxc
              obtain ⟨g, s8, A8, n8, c8, hxb, hgB, hbk, _⟩ := HF8.out hb2
              subst hxb
              have f1 := hbk.cell (i := 0) rfl
              have f2 := hbk.cell (i := 1) rfl
              have f3 := hbk.frozen 0
              have f4 := hbk.frozen 1
              have Hb1 := hide hb1
              have Hb2 := hide hb2
              have hsz := hup.size
              clear hb1 hb2
              refine wpOp_step rfl (fun K hK => ?_)
              go_simp
              refine hK _ _ ?_
              clear hK K
              exact ⟨b0, b1, b2, b3, b4, b5, b6, b7, b8, true, b10, x10_0, x10_1, x10_2, x10_3, x10_4, x10_5, .agg #[.bool s9, .slice A9 n9 c9], x10_7, .pointer (some ⟨g, 0, none⟩), x10_10, rfl, rfl, hup.two (g := g) hgB _ _, (fun h => (HF0.out h).boxed hbk _ _), (fun h => (HF1.out h).boxed hbk _ _), (fun h => (HF2.out h).boxed hbk _ _), (fun h => (HF3.out h).boxed hbk _ _), (fun h => by obtain ⟨q0, rq, r0⟩ := HF4.out h; exact ⟨q0, rq, r0.boxed hbk _ _⟩), (fun h => by obtain ⟨q0, rq, r0⟩ := HF5.out h; exact ⟨q0, rq, r0.boxed hbk _ _⟩), (fun h => (HF6.out h).boxed hbk _ _), HF7.out, (fun _ => hbk.fill hgB), (fun _ => ⟨Hb2.out, Hb1.out⟩), HF10.out⟩
            · skip
              have hb : b7 = true := getB (l := [b0, b1, b2, b3, b4, b5, b6, b7, b8, b9, b10]) (ready_dep hi rfl 7 (by kernel_rfl)) rfl
              have hx := hide (HF7.out hb)
              clear hb
              clear hi
              refine wpOp_step rfl (fun K hK => ?_)
              go_simp
              refine hK _ _ ?_
              clear hK K
              exact ⟨b0, b1, b2, b3, b4, b5, b6, b7, b8, b9, true, x10_0, x10_1, x10_2, x10_3, x10_4, x10_5, x10_6, x10_7, x10_8, x10_7, rfl, rfl, hup, HF0.out, HF1.out, HF2.out, HF3.out, HF4.out, HF5.out, HF6.out, HF7.out, HF8.out, HF9.out, (fun _ => hx.out)⟩
          case hQ =>
            rintro l a W10_ ⟨b0, b1, b2, b3, b4, b5, b6, b7, b8, b9, b10, x10_0, x10_1, x10_2, x10_3, x10_4, x10_5, x10_6, x10_7, x10_8, x10_10, rfl, rfl, hup, hF0, hF1, hF2, hF3, hF4, hF5, hF6, hF7, hF8, hF9, hF10⟩ hall
            have hb0 : b0 = true := getB (l := [b0, b1, b2, b3, b4, b5, b6, b7, b8, b9, b10]) (hall 0 (by decide)) rfl
            have hb1 : b1 = true := getB (l := [b0, b1, b2, b3, b4, b5, b6, b7, b8, b9, b10]) (hall 1 (by decide)) rfl
            have hb2 : b2 = true := getB (l := [b0, b1, b2, b3, b4, b5, b6, b7, b8, b9, b10]) (hall 2 (by decide)) rfl
            have hb3 : b3 = true := getB (l := [b0, b1, b2, b3, b4, b5, b6, b7, b8, b9, b10]) (hall 3 (by decide)) rfl
            have hb4 : b4 = true := getB (l := [b0, b1, b2, b3, b4, b5, b6, b7, b8, b9, b10]) (hall 4 (by decide)) rfl
            have hb5 : b5 = true := getB (l := [b0, b1, b2, b3, b4, b5, b6, b7, b8, b9, b10]) (hall 5 (by decide)) rfl
            have hb6 : b6 = true := getB (l := [b0, b1, b2, b3, b4, b5, b6, b7, b8, b9, b10]) (hall 6 (by decide)) rfl
            have hb7 : b7 = true := getB (l := [b0, b1, b2, b3, b4, b5, b6, b7, b8, b9, b10]) (hall 7 (by decide)) rfl
            have hb8 : b8 = true := getB (l := [b0, b1, b2, b3, b4, b5, b6, b7, b8, b9, b10]) (hall 8 (by decide)) rfl
            have hb9 : b9 = true := getB (l := [b0, b1, b2, b3, b4, b5, b6, b7, b8, b9, b10]) (hall 9 (by decide)) rfl
            have hb10 : b10 = true := getB (l := [b0, b1, b2, b3, b4, b5, b6, b7, b8, b9, b10]) (hall 10 (by decide)) rfl
            subst hb0 hb1 hb2 hb3 hb4 hb5 hb6 hb7 hb8 hb9 hb10
            clear hall
            have m0 := hF0 rfl
            have m1 := hF1 rfl
            have m2 := hF2 rfl
            have m3 := hF3 rfl
            have m4 := hF4 rfl
            have m5 := hF5 rfl
            have m6 := hF6 rfl
            have m7 := hF7 rfl
            have m8 := hF8 rfl
            have m10 := hF10 rfl
            clear hF0 hF1 hF2 hF3 hF4 hF5 hF6 hF7 hF8 hF9 hF10
            obtain ⟨gr6, sr6, Ar6, nr6, cr6, rfl, hgr6, hkr6, her6⟩ := m8
            obtain rfl := her6 rfl
            clear her6 hgr6
            have hir6 := m6
            obtain rfl := m7
            obtain rfl := m10
            clear m0 m1 m2 m3 m4 m5 m6
            have hb1 := hb1.up hup
            have hb2 := hb2.up hup
            have hkz := hkz.up hup
            have hkr1 := hkr1.up hup
            have hkr2 := hkr2.up hup
            have hkr3 := hkr3.up hup
            have hkr4 := hkr4.up hup
            have hkr5 := hkr5.up hup
            have q0 := q0.up hup
            have q1 := q1.up hup
            have hiz := hiz.up hup
            have hir1 := hir1.up hup
            have hir2 := hir2.up hup
            have hir3 := hir3.up hup
            have hir4 := hir4.up hup
            have hir5 := hir5.up hup
            have hupw := hupw.trans hup
            clear hup
            have hb1a := hb1.cell (i := 0) rfl
            have hb1b := hb1.cell (i := 1) rfl
            have hb1l := hb1.lt
            have hb2a := hb2.cell (i := 0) rfl
            have hb2b := hb2.cell (i := 1) rfl
            have hb2l := hb2.lt
            have hkza := hkz.cell (i := 0) rfl
            have hkzb := hkz.cell (i := 1) rfl
            have hkzl := hkz.lt
            have hkr1a := hkr1.cell (i := 0) rfl
            have hkr1b := hkr1.cell (i := 1) rfl
            have hkr1l := hkr1.lt
            have hkr2a := hkr2.cell (i := 0) rfl
            have hkr2b := hkr2.cell (i := 1) rfl
            have hkr2l := hkr2.lt
            have hkr3a := hkr3.cell (i := 0) rfl
            have hkr3b := hkr3.cell (i := 1) rfl
            have hkr3l := hkr3.lt
            have hkr4a := hkr4.cell (i := 0) rfl
            have hkr4b := hkr4.cell (i := 1) rfl
            have hkr4l := hkr4.lt
            have hkr5a := hkr5.cell (i := 0) rfl
            have hkr5b := hkr5.cell (i := 1) rfl
            have hkr5l := hkr5.lt
            have hkr6a := hkr6.cell (i := 0) rfl
            have hkr6b := hkr6.cell (i := 1) rfl
            have hkr6l := hkr6.lt
            go_wp2_with fail
            clear hb1a hb1b hb1l hb2a hb2b hb2l hkza hkzb hkzl hkr1a hkr1b hkr1l hkr2a hkr2b hkr2l hkr3a hkr3b hkr3l hkr4a hkr4b hkr4l hkr5a hkr5b hkr5l hkr6a hkr6b hkr6l
            obtain ⟨us, hus⟩ : ∃ x, x = W10_.alloc (.cells #[.bool sr1, .slice Ar1 nr1 cr1, .bool sr2, .slice Ar2 nr2 cr2, .bool sr3, .slice Ar3 nr3 cr3, .bool sr4, .slice Ar4 nr4 cr4, .bool sr5, .slice Ar5 nr5 cr5, .bool sr6, .slice Ar6 nr6 cr6] 25) := ⟨_, rfl⟩
            have hkS : Bk us W10_.heap.size 25 #[.bool sr1, .slice Ar1 nr1 cr1, .bool sr2, .slice Ar2 nr2 cr2, .bool sr3, .slice Ar3 nr3 cr3, .bool sr4, .slice Ar4 nr4 cr4, .bool sr5, .slice Ar5 nr5 cr5, .bool sr6, .slice Ar6 nr6 cr6] := by rw [hus]; exact Bk.new W10_ _ _
            have hup : Up W10_ us := by rw [hus]; exact (Up.refl W10_).alloc _
            rw [← hus]
            clear hus
            have hb1 := hb1.up hup
            have hb2 := hb2.up hup
            have hkz := hkz.up hup
            have hkr1 := hkr1.up hup
            have hkr2 := hkr2.up hup
            have hkr3 := hkr3.up hup
            have hkr4 := hkr4.up hup
            have hkr5 := hkr5.up hup
            have hkr6 := hkr6.up hup
            have q0 := q0.up hup
            have q1 := q1.up hup
            have hiz := hiz.up hup
            have hir1 := hir1.up hup
            have hir2 := hir2.up hup
            have hir3 := hir3.up hup
            have hir4 := hir4.up hup
            have hir5 := hir5.up hup
            have hir6 := hir6.up hup
            have hupw := hupw.trans hup
            clear hup
            go_loopw [95] (fun i wr => ∃ j : Nat, j ≤ 6 ∧ i = .int .i64 j ∧ Up us wr) (fun i _ => 6 - (intOf i).toNat)
            case atStart => exact ⟨0, by omega, rfl, Up.refl _⟩
            case round =>
              obtain ⟨j, hj, rfl, hup⟩ := hrel
              have hb1 := hb1.up hup
              have hb2 := hb2.up hup
              have hkz := hkz.up hup
              have hkr1 := hkr1.up hup
              have hkr2 := hkr2.up hup
              have hkr3 := hkr3.up hup
              have hkr4 := hkr4.up hup
              have hkr5 := hkr5.up hup
              have hkr6 := hkr6.up hup
              have q0 := q0.up hup
              have q1 := q1.up hup
              have hiz := hiz.up hup
              have hir1 := hir1.up hup
              have hir2 := hir2.up hup
              have hir3 := hir3.up hup
              have hir4 := hir4.up hup
              have hir5 := hir5.up hup
              have hir6 := hir6.up hup
              have hkS := hkS.up hup
              have hupw := hupw.trans hup
              by_cases hlt : j < 6
              · have hcases : j = 0 ∨ j = 1 ∨ j = 2 ∨ j = 3 ∨ j = 4 ∨ j = 5 := by omega
                clear hlt
                rcases hcases with rfl | rfl | rfl | rfl | rfl | rfl
                · have s0 := hkS.cell (i := 0) rfl
                  have s1 := hkS.cell (i := 1) rfl
                  have z0 := hkz.cell (i := 0) rfl
                  have z1 := hkz.cell (i := 1) rfl
                  have zl := hkz.lt
                  have sl := hkS.lt
                  go_wp2_with fail
                  refine (equalI 0 0 _ _ 0 _ (hir1.up ((Up.refl _).alloc _)) (hiz.up ((Up.refl _).alloc _)) zero_top).mono ?_
                  rintro e wq ⟨rfl, hupq⟩
                  go_wp2
                  go_roundw
                  case rel => exact ⟨1, by omega, by go_num, hup.trans (((Up.refl _).alloc _).trans hupq)⟩
                  case measure => simp [intOf] <;> omega
                · have s0 := hkS.cell (i := 2) rfl
                  have s1 := hkS.cell (i := 3) rfl
                  have z0 := hkz.cell (i := 0) rfl
                  have z1 := hkz.cell (i := 1) rfl
                  have zl := hkz.lt
                  have sl := hkS.lt
                  go_wp2_with fail
                  refine (equalI 0 0 _ _ 0 _ (hir2.up ((Up.refl _).alloc _)) (hiz.up ((Up.refl _).alloc _)) zero_top).mono ?_
                  rintro e wq ⟨rfl, hupq⟩
                  go_wp2
                  go_roundw
                  case rel => exact ⟨2, by omega, by go_num, hup.trans (((Up.refl _).alloc _).trans hupq)⟩
                  case measure => simp [intOf] <;> omega
                · have s0 := hkS.cell (i := 4) rfl
                  have s1 := hkS.cell (i := 5) rfl
                  have z0 := hkz.cell (i := 0) rfl
                  have z1 := hkz.cell (i := 1) rfl
                  have zl := hkz.lt
                  have sl := hkS.lt
                  go_wp2_with fail
                  refine (equalI 0 0 _ _ 0 _ (hir3.up ((Up.refl _).alloc _)) (hiz.up ((Up.refl _).alloc _)) zero_top).mono ?_
                  rintro e wq ⟨rfl, hupq⟩
                  go_wp2
                  go_roundw
                  case rel => exact ⟨3, by omega, by go_num, hup.trans (((Up.refl _).alloc _).trans hupq)⟩
                  case measure => simp [intOf] <;> omega
                · have s0 := hkS.cell (i := 6) rfl
                  have s1 := hkS.cell (i := 7) rfl
                  have z0 := hkz.cell (i := 0) rfl
                  have z1 := hkz.cell (i := 1) rfl
                  have zl := hkz.lt
                  have sl := hkS.lt
                  go_wp2_with fail
                  refine (equalI 0 0 _ _ 0 _ (hir4.up ((Up.refl _).alloc _)) (hiz.up ((Up.refl _).alloc _)) zero_top).mono ?_
                  rintro e wq ⟨rfl, hupq⟩
                  go_wp2
                  go_roundw
                  case rel => exact ⟨4, by omega, by go_num, hup.trans (((Up.refl _).alloc _).trans hupq)⟩
                  case measure => simp [intOf] <;> omega
                · have s0 := hkS.cell (i := 8) rfl
                  have s1 := hkS.cell (i := 9) rfl
                  have z0 := hkz.cell (i := 0) rfl
                  have z1 := hkz.cell (i := 1) rfl
                  have zl := hkz.lt
                  have sl := hkS.lt
                  go_wp2_with fail
                  refine (equalI 0 0 _ _ 0 _ (hir5.up ((Up.refl _).alloc _)) (hiz.up ((Up.refl _).alloc _)) zero_top).mono ?_
                  rintro e wq ⟨rfl, hupq⟩
                  go_wp2
                  go_roundw
                  case rel => exact ⟨5, by omega, by go_num, hup.trans (((Up.refl _).alloc _).trans hupq)⟩
                  case measure => simp [intOf] <;> omega
                · have s0 := hkS.cell (i := 10) rfl
                  have s1 := hkS.cell (i := 11) rfl
                  have z0 := hkz.cell (i := 0) rfl
                  have z1 := hkz.cell (i := 1) rfl
                  have zl := hkz.lt
                  have sl := hkS.lt
                  go_wp2_with fail
                  refine (equalI 0 0 _ _ 0 _ (hir6.up ((Up.refl _).alloc _)) (hiz.up ((Up.refl _).alloc _)) zero_top).mono ?_
                  rintro e wq ⟨rfl, hupq⟩
                  go_wp2
                  go_roundw
                  case rel => exact ⟨6, by omega, by go_num, hup.trans (((Up.refl _).alloc _).trans hupq)⟩
                  case measure => simp [intOf] <;> omega
              · obtain rfl : j = 6 := by omega
                have hb1a := hb1.cell (i := 0) rfl
                have hb1b := hb1.cell (i := 1) rfl
                have hb1l := hb1.lt
                have hb2a := hb2.cell (i := 0) rfl
                have hb2b := hb2.cell (i := 1) rfl
                have hb2l := hb2.lt
                have hkza := hkz.cell (i := 0) rfl
                have hkzb := hkz.cell (i := 1) rfl
                have hkzl := hkz.lt
                have hkr1a := hkr1.cell (i := 0) rfl
                have hkr1b := hkr1.cell (i := 1) rfl
                have hkr1l := hkr1.lt
                have hkr2a := hkr2.cell (i := 0) rfl
                have hkr2b := hkr2.cell (i := 1) rfl
                have hkr2l := hkr2.lt
                have hkr3a := hkr3.cell (i := 0) rfl
                have hkr3b := hkr3.cell (i := 1) rfl
                have hkr3l := hkr3.lt
                have hkr4a := hkr4.cell (i := 0) rfl
                have hkr4b := hkr4.cell (i := 1) rfl
                have hkr4l := hkr4.lt
                have hkr5a := hkr5.cell (i := 0) rfl
                have hkr5b := hkr5.cell (i := 1) rfl
                have hkr5l := hkr5.lt
                have hkr6a := hkr6.cell (i := 0) rfl
                have hkr6b := hkr6.cell (i := 1) rfl
                have hkr6l := hkr6.lt
                go_wp2_with fail
                clear hb1a hb1b hb1l hb2a hb2b hb2l hkza hkzb hkzl hkr1a hkr1b hkr1l hkr2a hkr2b hkr2l hkr3a hkr3b hkr3l hkr4a hkr4b hkr4l hkr5a hkr5b hkr5l hkr6a hkr6b hkr6l
                refine (rvalidZ _ s ls false _ HVa q0).mono ?_
                rintro e w11_ ⟨rfl, hup⟩
                have hb1 := hb1.up hup
                have hb2 := hb2.up hup
                have hkz := hkz.up hup
                have hkr1 := hkr1.up hup
                have hkr2 := hkr2.up hup
                have hkr3 := hkr3.up hup
                have hkr4 := hkr4.up hup
                have hkr5 := hkr5.up hup
                have hkr6 := hkr6.up hup
                have q0 := q0.up hup
                have q1 := q1.up hup
                have hiz := hiz.up hup
                have hir1 := hir1.up hup
                have hir2 := hir2.up hup
                have hir3 := hir3.up hup
                have hir4 := hir4.up hup
                have hir5 := hir5.up hup
                have hir6 := hir6.up hup
                have hkS := hkS.up hup
                have hupw := hupw.trans hup
                clear hup
                have hb1a := hb1.cell (i := 0) rfl
                have hb1b := hb1.cell (i := 1) rfl
                have hb1l := hb1.lt
                have hb2a := hb2.cell (i := 0) rfl
                have hb2b := hb2.cell (i := 1) rfl
                have hb2l := hb2.lt
                have hkza := hkz.cell (i := 0) rfl
                have hkzb := hkz.cell (i := 1) rfl
                have hkzl := hkz.lt
                have hkr1a := hkr1.cell (i := 0) rfl
                have hkr1b := hkr1.cell (i := 1) rfl
                have hkr1l := hkr1.lt
                have hkr2a := hkr2.cell (i := 0) rfl
                have hkr2b := hkr2.cell (i := 1) rfl
                have hkr2l := hkr2.lt
                have hkr3a := hkr3.cell (i := 0) rfl
                have hkr3b := hkr3.cell (i := 1) rfl
                have hkr3l := hkr3.lt
                have hkr4a := hkr4.cell (i := 0) rfl
                have hkr4b := hkr4.cell (i := 1) rfl
                have hkr4l := hkr4.lt
                have hkr5a := hkr5.cell (i := 0) rfl
                have hkr5b := hkr5.cell (i := 1) rfl
                have hkr5l := hkr5.lt
                have hkr6a := hkr6.cell (i := 0) rfl
                have hkr6b := hkr6.cell (i := 1) rfl
                have hkr6l := hkr6.lt
                go_wp2_with fail
                clear hb1a hb1b hb1l hb2a hb2b hb2l hkza hkzb hkzl hkr1a hkr1b hkr1l hkr2a hkr2b hkr2l hkr3a hkr3b hkr3l hkr4a hkr4b hkr4l hkr5a hkr5b hkr5l hkr6a hkr6b hkr6l
                refine (ownR _ s ls _ q0).mono ?_
                rintro e w12_ ⟨v12_0, rfl, hv12_0, hup⟩
                have hb1 := hb1.up hup
                have hb2 := hb2.up hup
                have hkz := hkz.up hup
                have hkr1 := hkr1.up hup
                have hkr2 := hkr2.up hup
                have hkr3 := hkr3.up hup
                have hkr4 := hkr4.up hup
                have hkr5 := hkr5.up hup
                have hkr6 := hkr6.up hup
                have q0 := q0.up hup
                have q1 := q1.up hup
                have hiz := hiz.up hup
                have hir1 := hir1.up hup
                have hir2 := hir2.up hup
                have hir3 := hir3.up hup
                have hir4 := hir4.up hup
                have hir5 := hir5.up hup
                have hir6 := hir6.up hup
                have hkS := hkS.up hup
                have hupw := hupw.trans hup
                clear hup
                have hb1a := hb1.cell (i := 0) rfl
                have hb1b := hb1.cell (i := 1) rfl
                have hb1l := hb1.lt
                have hb2a := hb2.cell (i := 0) rfl
                have hb2b := hb2.cell (i := 1) rfl
                have hb2l := hb2.lt
                have hkza := hkz.cell (i := 0) rfl
                have hkzb := hkz.cell (i := 1) rfl
                have hkzl := hkz.lt
                have hkr1a := hkr1.cell (i := 0) rfl
                have hkr1b := hkr1.cell (i := 1) rfl
                have hkr1l := hkr1.lt
                have hkr2a := hkr2.cell (i := 0) rfl
                have hkr2b := hkr2.cell (i := 1) rfl
                have hkr2l := hkr2.lt
                have hkr3a := hkr3.cell (i := 0) rfl
                have hkr3b := hkr3.cell (i := 1) rfl
                have hkr3l := hkr3.lt
                have hkr4a := hkr4.cell (i := 0) rfl
                have hkr4b := hkr4.cell (i := 1) rfl
                have hkr4l := hkr4.lt
                have hkr5a := hkr5.cell (i := 0) rfl
                have hkr5b := hkr5.cell (i := 1) rfl
                have hkr5l := hkr5.lt
                have hkr6a := hkr6.cell (i := 0) rfl
                have hkr6b := hkr6.cell (i := 1) rfl
                have hkr6l := hkr6.lt
                go_wp2_with fail
                clear hb1a hb1b hb1l hb2a hb2b hb2l hkza hkzb hkzl hkr1a hkr1b hkr1l hkr2a hkr2b hkr2l hkr3a hkr3b hkr3l hkr4a hkr4b hkr4l hkr5a hkr5b hkr5l hkr6a hkr6b hkr6l
                refine (smallZ _ s ls _ HVa hv12_0).mono ?_
                rintro e w13_ ⟨rfl, hup⟩
                have hb1 := hb1.up hup
                have hb2 := hb2.up hup
                have hkz := hkz.up hup
                have hkr1 := hkr1.up hup
                have hkr2 := hkr2.up hup
                have hkr3 := hkr3.up hup
                have hkr4 := hkr4.up hup
                have hkr5 := hkr5.up hup
                have hkr6 := hkr6.up hup
                have q0 := q0.up hup
                have q1 := q1.up hup
                have hiz := hiz.up hup
                have hir1 := hir1.up hup
                have hir2 := hir2.up hup
                have hir3 := hir3.up hup
                have hir4 := hir4.up hup
                have hir5 := hir5.up hup
                have hir6 := hir6.up hup
                have hkS := hkS.up hup
                have hupw := hupw.trans hup
                clear hup
                have hb1a := hb1.cell (i := 0) rfl
                have hb1b := hb1.cell (i := 1) rfl
                have hb1l := hb1.lt
                have hb2a := hb2.cell (i := 0) rfl
                have hb2b := hb2.cell (i := 1) rfl
                have hb2l := hb2.lt
                have hkza := hkz.cell (i := 0) rfl
                have hkzb := hkz.cell (i := 1) rfl
                have hkzl := hkz.lt
                have hkr1a := hkr1.cell (i := 0) rfl
                have hkr1b := hkr1.cell (i := 1) rfl
                have hkr1l := hkr1.lt
                have hkr2a := hkr2.cell (i := 0) rfl
                have hkr2b := hkr2.cell (i := 1) rfl
                have hkr2l := hkr2.lt
                have hkr3a := hkr3.cell (i := 0) rfl
                have hkr3b := hkr3.cell (i := 1) rfl
                have hkr3l := hkr3.lt
                have hkr4a := hkr4.cell (i := 0) rfl
                have hkr4b := hkr4.cell (i := 1) rfl
                have hkr4l := hkr4.lt
                have hkr5a := hkr5.cell (i := 0) rfl
                have hkr5b := hkr5.cell (i := 1) rfl
                have hkr5l := hkr5.lt
                have hkr6a := hkr6.cell (i := 0) rfl
                have hkr6b := hkr6.cell (i := 1) rfl
                have hkr6l := hkr6.lt
                go_wp2_with fail
                clear hb1a hb1b hb1l hb2a hb2b hb2l hkza hkzb hkzl hkr1a hkr1b hkr1l hkr2a hkr2b hkr2l hkr3a hkr3b hkr3l hkr4a hkr4b hkr4l hkr5a hkr5b hkr5l hkr6a hkr6b hkr6l
                refine (ownR _ s ls _ q0).mono ?_
                rintro e w14_ ⟨v14_0, rfl, hv14_0, hup⟩
                have hb1 := hb1.up hup
                have hb2 := hb2.up hup
                have hkz := hkz.up hup
                have hkr1 := hkr1.up hup
                have hkr2 := hkr2.up hup
                have hkr3 := hkr3.up hup
                have hkr4 := hkr4.up hup
                have hkr5 := hkr5.up hup
                have hkr6 := hkr6.up hup
                have q0 := q0.up hup
                have q1 := q1.up hup
                have hiz := hiz.up hup
                have hir1 := hir1.up hup
                have hir2 := hir2.up hup
                have hir3 := hir3.up hup
                have hir4 := hir4.up hup
                have hir5 := hir5.up hup
                have hir6 := hir6.up hup
                have hkS := hkS.up hup
                have hupw := hupw.trans hup
                clear hup
                have hb1a := hb1.cell (i := 0) rfl
                have hb1b := hb1.cell (i := 1) rfl
                have hb1l := hb1.lt
                have hb2a := hb2.cell (i := 0) rfl
                have hb2b := hb2.cell (i := 1) rfl
                have hb2l := hb2.lt
                have hkza := hkz.cell (i := 0) rfl
                have hkzb := hkz.cell (i := 1) rfl
                have hkzl := hkz.lt
                have hkr1a := hkr1.cell (i := 0) rfl
                have hkr1b := hkr1.cell (i := 1) rfl
                have hkr1l := hkr1.lt
                have hkr2a := hkr2.cell (i := 0) rfl
                have hkr2b := hkr2.cell (i := 1) rfl
                have hkr2l := hkr2.lt
                have hkr3a := hkr3.cell (i := 0) rfl
                have hkr3b := hkr3.cell (i := 1) rfl
                have hkr3l := hkr3.lt
                have hkr4a := hkr4.cell (i := 0) rfl
                have hkr4b := hkr4.cell (i := 1) rfl
                have hkr4l := hkr4.lt
                have hkr5a := hkr5.cell (i := 0) rfl
                have hkr5b := hkr5.cell (i := 1) rfl
                have hkr5l := hkr5.lt
                have hkr6a := hkr6.cell (i := 0) rfl
                have hkr6b := hkr6.cell (i := 1) rfl
                have hkr6l := hkr6.lt
                go_wp2_with fail
                clear hb1a hb1b hb1l hb2a hb2b hb2l hkza hkzb hkzl hkr1a hkr1b hkr1l hkr2a hkr2b hkr2l hkr3a hkr3b hkr3l hkr4a hkr4b hkr4l hkr5a hkr5b hkr5l hkr6a hkr6b hkr6l
                refine (formatZ _ s ls _ HVa hv14_0).mono ?_
                rintro e w15_ ⟨rfl, hup⟩
                have hb1 := hb1.up hup
                have hb2 := hb2.up hup
                have hkz := hkz.up hup
                have hkr1 := hkr1.up hup
                have hkr2 := hkr2.up hup
                have hkr3 := hkr3.up hup
                have hkr4 := hkr4.up hup
                have hkr5 := hkr5.up hup
                have hkr6 := hkr6.up hup
                have q0 := q0.up hup
                have q1 := q1.up hup
                have hiz := hiz.up hup
                have hir1 := hir1.up hup
                have hir2 := hir2.up hup
                have hir3 := hir3.up hup
                have hir4 := hir4.up hup
                have hir5 := hir5.up hup
                have hir6 := hir6.up hup
                have hkS := hkS.up hup
                have hupw := hupw.trans hup
                clear hup
                have hb1a := hb1.cell (i := 0) rfl
                have hb1b := hb1.cell (i := 1) rfl
                have hb1l := hb1.lt
                have hb2a := hb2.cell (i := 0) rfl
                have hb2b := hb2.cell (i := 1) rfl
                have hb2l := hb2.lt
                have hkza := hkz.cell (i := 0) rfl
                have hkzb := hkz.cell (i := 1) rfl
                have hkzl := hkz.lt
                have hkr1a := hkr1.cell (i := 0) rfl
                have hkr1b := hkr1.cell (i := 1) rfl
                have hkr1l := hkr1.lt
                have hkr2a := hkr2.cell (i := 0) rfl
                have hkr2b := hkr2.cell (i := 1) rfl
                have hkr2l := hkr2.lt
                have hkr3a := hkr3.cell (i := 0) rfl
                have hkr3b := hkr3.cell (i := 1) rfl
                have hkr3l := hkr3.lt
                have hkr4a := hkr4.cell (i := 0) rfl
                have hkr4b := hkr4.cell (i := 1) rfl
                have hkr4l := hkr4.lt
                have hkr5a := hkr5.cell (i := 0) rfl
                have hkr5b := hkr5.cell (i := 1) rfl
                have hkr5l := hkr5.lt
                have hkr6a := hkr6.cell (i := 0) rfl
                have hkr6b := hkr6.cell (i := 1) rfl
                have hkr6l := hkr6.lt
                go_wp2_with fail
                clear hb1a hb1b hb1l hb2a hb2b hb2l hkza hkzb hkzl hkr1a hkr1b hkr1l hkr2a hkr2b hkr2l hkr3a hkr3b hkr3l hkr4a hkr4b hkr4l hkr5a hkr5b hkr5l hkr6a hkr6b hkr6l
                go_ret
                exact ⟨rfl, hupw⟩
end Go.Proofs.YtnelnobcecnhlaaDoor
