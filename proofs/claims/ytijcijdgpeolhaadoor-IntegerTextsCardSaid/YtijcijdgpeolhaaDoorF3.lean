/- The program's Div. -/
import Derived.Test.YtijcijdgpeolhaaDoorF1
import Derived.Test.YtijcijdgpeolhaaDoorD6
import Derived.Test.YtijcijdgpeolhaaDoorC7
namespace Go.Proofs.YtijcijdgpeolhaaDoor
open Go.RowKit

theorem cell_far2 {W : World} {g g' i : Nat} {v : Value} (hne : g ≠ g') (h : W.cell? ⟨g, i, none⟩ = some v) (x y : Value) : ((W.setCell ⟨g', 0, none⟩ x).setCell ⟨g', 1, none⟩ y).cell? ⟨g, i, none⟩ = some v :=
  ((World.cell?_setCell_other _ _ _ _ (fun e => hne (congrArg Addr.block e).symm)).trans (World.cell?_setCell_other _ _ _ _ (fun e => hne (congrArg Addr.block e).symm))).trans h
set_option maxHeartbeats 4000000 in
theorem divI_zero (B B' : Nat) (v v' : Value) (x y : Int) (w : World) (hv : IsInt B w v x) (hv' : IsInt B' w v' y) (hx : x.natAbs < top300) (hy0 : y = 0) :
    Calls Tryd.prog 18 #[v, v'] w (RetInt2 w 0 0 8) := by
  have hy : y.natAbs < top300 := by rw [hy0]; have := bas_pos 33; simp [top300]; omega
  obtain ⟨s, A, n, c, rfl, Hs, Hn, hl, hc, hN⟩ := hv
  obtain ⟨t, C, m, d, rfl, Ht, Hm, hm, hd, hN'⟩ := hv'
  obtain ⟨w0, hw0⟩ : ∃ w0, w0 = ((((w.alloc (.cells #[.bool s, .slice A n c] 25)).alloc (.cells #[.bool t, .slice C m d] 25)).alloc (.cells #[.bool false, .slice none 0 0] 25)).alloc (.cells #[.bool false, .slice none 0 0] 25)) := ⟨_, rfl⟩
  have hb1 : Bk w0 (w.heap.size) 25 #[.bool s, .slice A n c] := by
    have := (((Bk.new w 25 #[.bool s, .slice A n c]).alloc (.cells #[.bool t, .slice C m d] 25)).alloc (.cells #[.bool false, .slice none 0 0] 25)).alloc (.cells #[.bool false, .slice none 0 0] 25)
    rw [hw0]; simpa using this
  have hb2 : Bk w0 (w.heap.size + 1) 25 #[.bool t, .slice C m d] := by
    have := ((Bk.new (w.alloc (.cells #[.bool s, .slice A n c] 25)) 25 #[.bool t, .slice C m d]).alloc (.cells #[.bool false, .slice none 0 0] 25)).alloc (.cells #[.bool false, .slice none 0 0] 25)
    rw [hw0]; simpa using this
  have hb3 : Bk w0 (w.heap.size + 1 + 1) 25 #[.bool false, .slice none 0 0] := by
    have := (Bk.new ((w.alloc (.cells #[.bool s, .slice A n c] 25)).alloc (.cells #[.bool t, .slice C m d] 25)) 25 #[.bool false, .slice none 0 0]).alloc (.cells #[.bool false, .slice none 0 0] 25)
    rw [hw0]; simpa using this
  have hb4 : Bk w0 (w.heap.size + 1 + 1 + 1) 25 #[.bool false, .slice none 0 0] := by
    have := Bk.new (((w.alloc (.cells #[.bool s, .slice A n c] 25)).alloc (.cells #[.bool t, .slice C m d] 25)).alloc (.cells #[.bool false, .slice none 0 0] 25)) 25 #[.bool false, .slice none 0 0]
    rw [hw0]; simpa using this
  have hup0 : Up w w0 := by rw [hw0]; exact ((((Up.refl w).alloc _).alloc _).alloc _).alloc _
  have hsz0 : w.heap.size + 4 ≤ w0.heap.size := by rw [hw0]; simp
  have Hw0 := hide hw0
  clear hw0
  have e1a := hb1.cell (i := 0) rfl
  have e1b := hb1.cell (i := 1) rfl
  have e2a := hb2.cell (i := 0) rfl
  have e2b := hb2.cell (i := 1) rfl
  have e3a := hb3.cell (i := 0) rfl
  have e3b := hb3.cell (i := 1) rfl
  have e4a := hb4.cell (i := 0) rfl
  have e4b := hb4.cell (i := 1) rfl
  obtain rfl : m = 0 := by rw [Hm.out, hy0]; simp [lim_zero]
  go_enter Tryd.func18, Tryd.ntmps18
  go_wp2_with fail
  rw [← Hw0.out]
  refine (both_any B B' _ _ x y w0 ⟨s, A, n, c, rfl, Hs, Hn, hl.up hup0, hc, hN⟩ ⟨t, C, _, d, rfl, Ht, Hm, hm.up hup0, hd, hN'⟩ hx hy).mono ?_
  rintro e w1 ⟨rfl, hup1⟩
  have g1 := hup1.keep e1a
  have g2 := hup1.keep e1b
  have g3 := hup1.keep e2a
  have g4 := hup1.keep e2b
  have hb5 := hb3.up hup1
  have hb6 := hb4.up hup1
  have f1 := hb5.cell (i := 0) rfl
  have f2 := hb5.cell (i := 1) rfl
  have f3 := hb5.frozen 0
  have f4 := hb5.frozen 1
  have p1 := hb6.cell (i := 0) rfl
  have p2 := hb6.cell (i := 1) rfl
  have p3 := hb6.frozen 0
  have p4 := hb6.frozen 1
  have hQ1 := (hb5.two_bk (.bool false) (.slice none 0 0)).far2 (g' := w.heap.size + 1 + 1 + 1) (by omega) (.bool false) (.slice none 0 0)
  have hQ2 := (hb6.far2 (g' := w.heap.size + 1 + 1) (by omega) (.bool false) (.slice none 0 0)).two_bk (.bool false) (.slice none 0 0)
  have q1 := hQ1.cell (i := 0) rfl
  have q2 := hQ1.cell (i := 1) rfl
  have q3 := hQ2.cell (i := 0) rfl
  have q4 := hQ2.cell (i := 1) rfl
  go_wp2
  refine bodyPost_ret (v := .tuple #[.agg #[.bool false, .slice none 0 0], .agg #[.bool false, .slice none 0 0], .int .i64 8]) (by simp [results, Tryd.results18, go_sem, q1, q2, q3, q4]) rfl ⟨_, _, rfl, IsInt.zero _ _, IsInt.zero _ _, ((hup0.trans hup1).two (by omega) _ _).two (by omega) _ _⟩

set_option maxHeartbeats 4000000 in
theorem divI_any (B B' : Nat) (v v' : Value) (x y : Int) (w : World) (hv : IsInt B w v x) (hv' : IsInt B' w v' y) (hx : x.natAbs < top300) (hy : y.natAbs < top300) (hy0 : y ≠ 0) (HL : 1000000000 ≤ y.natAbs → LongSaid) :
    Calls Tryd.prog 18 #[v, v'] w (RetInt2 w (x.tdiv y) (x.tmod y) 0) := by
  obtain ⟨s, A, n, c, rfl, Hs, Hn, hl, hc, hN⟩ := hv
  obtain ⟨t, C, m, d, rfl, Ht, Hm, hm, hd, hN'⟩ := hv'
  obtain ⟨w0, hw0⟩ : ∃ w0, w0 = ((((w.alloc (.cells #[.bool s, .slice A n c] 25)).alloc (.cells #[.bool t, .slice C m d] 25)).alloc (.cells #[.bool false, .slice none 0 0] 25)).alloc (.cells #[.bool false, .slice none 0 0] 25)) := ⟨_, rfl⟩
  have hb1 : Bk w0 (w.heap.size) 25 #[.bool s, .slice A n c] := by
    have := (((Bk.new w 25 #[.bool s, .slice A n c]).alloc (.cells #[.bool t, .slice C m d] 25)).alloc (.cells #[.bool false, .slice none 0 0] 25)).alloc (.cells #[.bool false, .slice none 0 0] 25)
    rw [hw0]; simpa using this
  have hb2 : Bk w0 (w.heap.size + 1) 25 #[.bool t, .slice C m d] := by
    have := ((Bk.new (w.alloc (.cells #[.bool s, .slice A n c] 25)) 25 #[.bool t, .slice C m d]).alloc (.cells #[.bool false, .slice none 0 0] 25)).alloc (.cells #[.bool false, .slice none 0 0] 25)
    rw [hw0]; simpa using this
  have hb3 : Bk w0 (w.heap.size + 1 + 1) 25 #[.bool false, .slice none 0 0] := by
    have := (Bk.new ((w.alloc (.cells #[.bool s, .slice A n c] 25)).alloc (.cells #[.bool t, .slice C m d] 25)) 25 #[.bool false, .slice none 0 0]).alloc (.cells #[.bool false, .slice none 0 0] 25)
    rw [hw0]; simpa using this
  have hb4 : Bk w0 (w.heap.size + 1 + 1 + 1) 25 #[.bool false, .slice none 0 0] := by
    have := Bk.new (((w.alloc (.cells #[.bool s, .slice A n c] 25)).alloc (.cells #[.bool t, .slice C m d] 25)).alloc (.cells #[.bool false, .slice none 0 0] 25)) 25 #[.bool false, .slice none 0 0]
    rw [hw0]; simpa using this
  have hup0 : Up w w0 := by rw [hw0]; exact ((((Up.refl w).alloc _).alloc _).alloc _).alloc _
  have hsz0 : w.heap.size + 4 ≤ w0.heap.size := by rw [hw0]; simp
  have Hw0 := hide hw0
  clear hw0
  have e1a := hb1.cell (i := 0) rfl
  have e1b := hb1.cell (i := 1) rfl
  have e2a := hb2.cell (i := 0) rfl
  have e2b := hb2.cell (i := 1) rfl
  have e3a := hb3.cell (i := 0) rfl
  have e3b := hb3.cell (i := 1) rfl
  have e4a := hb4.cell (i := 0) rfl
  have e4b := hb4.cell (i := 1) rfl
  have hn34 : n ≤ 34 := by rw [Hn.out]; exact len_of_top hx
  have hm34 : m ≤ 34 := by rw [Hm.out]; exact len_of_top hy
  have hq := hide (sgn_tdiv Hs Ht)
  have hr := hide (sgn_tmod (s := s) (x := x) (y := y) Hs)
  have hyn : 0 < y.natAbs := by omega
  have hm0 : 0 < m := by rw [Hm.out]; exact Nat.pos_of_ne_zero fun e => by rw [lim_len_zero] at e; omega
  have hmb : ((m : Int) == 0) = false := by rw [beq_eq_false_iff_ne]; omega
  have hqt := hide (Nat.lt_of_le_of_lt (Nat.div_le_self x.natAbs y.natAbs) hx)
  have hrt := hide (Nat.lt_of_le_of_lt (Nat.mod_le x.natAbs y.natAbs) hx)
  have HL2 : Hid (2 ≤ m → LongSaid) := fun h => HL (by
    have h1 := Hm.out
    have h2 := bas_le_of_len (n := y.natAbs) (k := 1) (by omega)
    exact h2)
  clear HL
  go_enter Tryd.func18, Tryd.ntmps18
  go_wp2_with fail
  rw [← Hw0.out]
  refine (both_any B B' _ _ x y w0 ⟨s, A, n, c, rfl, Hs, Hn, hl.up hup0, hc, hN⟩ ⟨t, C, m, d, rfl, Ht, Hm, hm.up hup0, hd, hN'⟩ hx hy).mono ?_
  rintro e w1 ⟨rfl, hup1⟩
  have g1 := hup1.keep e1a
  have g2 := hup1.keep e1b
  have g3 := hup1.keep e2a
  have g4 := hup1.keep e2b
  go_wp2_with fail
  refine (divide_any A C c d x.natAbs y.natAbs _ (hl.up (hup0.trans hup1)) (hm.up (hup0.trans hup1)) n m Hn Hm (by omega) (by omega) hc hd hyn HL2.out).mono ?_
  rintro e w2 ⟨A1, n1, c1, A2, n2, c2, rfl, Hn1, Hn2, hl1, hl2, hc1, hc2, hnew1, hnew2, hup2⟩
  have hn1 : n1 ≤ 34 := by rw [Hn1.out]; exact len_of_top hqt.out
  have hn2 : n2 ≤ 34 := by rw [Hn2.out]; exact len_of_top hrt.out
  have hsz1 := hup1.size
  have hN1 : NewB (w.heap.size + 1 + 1 + 1 + 1) A1 := hnew1.mono (by omega)
  have hN2 : NewB (w.heap.size + 1 + 1 + 1 + 1) A2 := hnew2.mono (by omega)
  have hupB := hup1.trans hup2
  have k1 : w2.cell? ⟨w.heap.size, 0, none⟩ = some (.bool s) := hupB.keep e1a
  have k2 : w2.cell? ⟨w.heap.size + 1, 0, none⟩ = some (.bool t) := hupB.keep e2a
  have hb7 := hb3.up hupB
  have hb8 := hb4.up hupB
  clear g1 g2 g3 g4 hnew1 hnew2 hup1 hup2 hsz1
  go_wp2_with fail
  have hupA : Up w2 w2.drew := (Up.refl w2).drew
  have k3 := hupA.keep k1
  have k4 := hupA.keep k2
  go_region_held3 (fun w' => w'.cell? ⟨w.heap.size, 0, none⟩ = some (.bool s) ∧ w'.cell? ⟨w.heap.size + 1, 0, none⟩ = some (.bool t))
    (((repeat' apply And.intro) <;> (repeat (with_reducible refine cell_far2 ?_ ?_ _ _; · omega)) <;> with_reducible assumption))
    (first
      | (go_at_call_of 29 A1; refine (signedI (w.heap.size + 1 + 1 + 1 + 1) (s != t) A1 c1 n1 (x.natAbs / y.natAbs) _ (hl1.up hupA) Hn1 (by omega) hc1 hN1).mono ?_; rintro e w3 ⟨⟨v3, rfl, hv3⟩, hup3⟩; replace hupA := hupA.trans hup3; have k3 := hupA.keep k1; have k4 := hupA.keep k2; rw [hq.out] at hv3; obtain ⟨s3, A3, n3, c3, rfl, Hs3, Hn3, hl3, hc3, hnew3⟩ := hv3; have hb5 := hb7.up hupA; have hb6 := hb8.up hupA; have f1 := hb5.cell (i := 0) rfl; have f2 := hb5.cell (i := 1) rfl; have f3 := hb5.frozen 0; have f4 := hb5.frozen 1; have p1 := hb6.cell (i := 0) rfl; have p2 := hb6.cell (i := 1) rfl; have p3 := hb6.frozen 0; have p4 := hb6.frozen 1)
      | (go_at_call_of 29 A2; refine (signedI (w.heap.size + 1 + 1 + 1 + 1) s A2 c2 n2 (x.natAbs % y.natAbs) _ (hl2.up hupA) Hn2 (by omega) hc2 hN2).mono ?_; rintro e w4 ⟨⟨v4, rfl, hv4⟩, hup4⟩; replace hupA := hupA.trans hup4; have k3 := hupA.keep k1; have k4 := hupA.keep k2; rw [hr.out] at hv4; obtain ⟨s4, A4, n4, c4, rfl, Hs4, Hn4, hl4, hc4, hnew4⟩ := hv4; have hb5 := hb7.up hupA; have hb6 := hb8.up hupA; have f1 := hb5.cell (i := 0) rfl; have f2 := hb5.cell (i := 1) rfl; have f3 := hb5.frozen 0; have f4 := hb5.frozen 1; have p1 := hb6.cell (i := 0) rfl; have p2 := hb6.cell (i := 1) rfl; have p3 := hb6.frozen 0; have p4 := hb6.frozen 1))
  all_goals
    have hQ1 := (hb5.two_bk (.bool s3) (.slice A3 n3 c3)).far2 (g' := w.heap.size + 1 + 1 + 1) (by omega) (.bool s4) (.slice A4 n4 c4)
    have hQ2 := (hb6.far2 (g' := w.heap.size + 1 + 1) (by omega) (.bool s3) (.slice A3 n3 c3)).two_bk (.bool s4) (.slice A4 n4 c4)
    have q1 := hQ1.cell (i := 0) rfl
    have q2 := hQ1.cell (i := 1) rfl
    have q3 := hQ2.cell (i := 0) rfl
    have q4 := hQ2.cell (i := 1) rfl
    go_wp2
    refine bodyPost_ret (v := .tuple #[.agg #[.bool s3, .slice A3 n3 c3], .agg #[.bool s4, .slice A4 n4 c4], .int .i64 0]) (by simp [results, Tryd.results18, go_sem, q1, q2, q3, q4]) rfl
      ⟨_, _, rfl, ⟨s3, A3, n3, c3, rfl, Hs3, Hn3, Lim.two (Lim.two (by first | exact hl3 | exact hl3.up hup4) (hnew3.mono (by omega)) _ _) hnew3 _ _, hc3, hnew3.mono (by omega)⟩, ⟨s4, A4, n4, c4, rfl, Hs4, Hn4, Lim.two (Lim.two (by first | exact hl4 | exact hl4.up hup3) (hnew4.mono (by omega)) _ _) hnew4 _ _, hc4, hnew4.mono (by omega)⟩, (((hup0.trans hupB).trans hupA).two (by omega) _ _).two (by omega) _ _⟩
end Go.Proofs.YtijcijdgpeolhaaDoor
