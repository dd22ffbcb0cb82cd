/- The program's Sub, Mul on valid integers. -/
import Derived.Test.YtnelnobcecnhlaaDoorD6
import Derived.Test.YtnelnobcecnhlaaDoorC4
namespace Go.Proofs.YtnelnobcecnhlaaDoor
open Go.RowKit

set_option maxHeartbeats 4000000 in
theorem sub_any (B B' : Nat) (v v' : Value) (x y : Int) (w : World) (hv : IsInt B w v x) (hv' : IsInt B' w v' y) (hx : x.natAbs < top300) (hy : y.natAbs < top300) :
    Calls Tryd.prog 20 #[v, v'] w (RetIntE w (x - y)) := by
  obtain ⟨s, A, n, c, rfl, Hs, Hn, hl, hc, hN⟩ := hv
  obtain ⟨t, C, m, d, rfl, Ht, Hm, hm, hd, hN'⟩ := hv'
  obtain ⟨w0, hw0⟩ : ∃ w0, w0 = (((w.alloc (.cells #[.bool s, .slice A n c] 25)).alloc (.cells #[.bool t, .slice C m d] 25)).alloc (.cells #[.bool false, .slice none 0 0] 25)) := ⟨_, rfl⟩
  have hb1 : Bk w0 (w.heap.size) 25 #[.bool s, .slice A n c] := by
    have := ((Bk.new w 25 #[.bool s, .slice A n c]).alloc (.cells #[.bool t, .slice C m d] 25)).alloc (.cells #[.bool false, .slice none 0 0] 25)
    rw [hw0]; simpa using this
  have hb2 : Bk w0 (w.heap.size + 1) 25 #[.bool t, .slice C m d] := by
    have := (Bk.new (w.alloc (.cells #[.bool s, .slice A n c] 25)) 25 #[.bool t, .slice C m d]).alloc (.cells #[.bool false, .slice none 0 0] 25)
    rw [hw0]; simpa using this
  have hb3 : Bk w0 (w.heap.size + 1 + 1) 25 #[.bool false, .slice none 0 0] := by
    have := Bk.new ((w.alloc (.cells #[.bool s, .slice A n c] 25)).alloc (.cells #[.bool t, .slice C m d] 25)) 25 #[.bool false, .slice none 0 0]
    rw [hw0]; simpa using this
  have hup0 : Up w w0 := by rw [hw0]; exact (((Up.refl w).alloc _).alloc _).alloc _
  have hsz0 : w.heap.size + 3 ≤ w0.heap.size := by rw [hw0]; simp
  have Hw0 := hide hw0
  clear hw0
  have e1a := hb1.cell (i := 0) rfl
  have e1b := hb1.cell (i := 1) rfl
  have e2a := hb2.cell (i := 0) rfl
  have e2b := hb2.cell (i := 1) rfl
  have e3a := hb3.cell (i := 0) rfl
  have e3b := hb3.cell (i := 1) rfl
  have hm34 : m ≤ 34 := by rw [Hm.out]; exact len_of_top hy
  have hneg : Hid (sgn (!t) y.natAbs = -y) := by
    show _ = _
    rw [sgn_int, Ht.out]; simp
  go_enter Tryd.func20, Tryd.ntmps20
  go_wp2_with fail
  rw [← Hw0.out]
  refine (both_any B B' _ _ x y w0 ⟨s, A, n, c, rfl, Hs, Hn, hl.up hup0, hc, hN⟩ ⟨t, C, m, d, rfl, Ht, Hm, hm.up hup0, hd, hN'⟩ hx hy).mono ?_
  rintro e w1 ⟨rfl, hup1⟩
  have g1 := hup1.keep e1a
  have g2 := hup1.keep e1b
  have g3 := hup1.keep e2a
  have g4 := hup1.keep e2b
  go_wp2_with fail
  have hupA : Up w0 w1.drew := hup1.drew
  have HSA := hide (Nat.le_trans hsz0 hupA.size)
  go_region_held3 (fun w' => w'.cell? ⟨w.heap.size, 0, none⟩ = some (.bool s) ∧ w'.cell? ⟨w.heap.size, 1, none⟩ = some (.slice A n c) ∧ w'.cell? ⟨w.heap.size + 1, 0, none⟩ = some (.bool t) ∧ w'.cell? ⟨w.heap.size + 1, 1, none⟩ = some (.slice C m d))
    (first | (exact ⟨hupA.keep e1a, hupA.keep e1b, hupA.keep e2a, hupA.keep e2b⟩) | (exact ⟨((hb1.up hupA).far2 (by omega) _ _).cell (i := 0) rfl, ((hb1.up hupA).far2 (by omega) _ _).cell (i := 1) rfl, ((hb2.up hupA).far2 (by omega) _ _).cell (i := 0) rfl, ((hb2.up hupA).far2 (by omega) _ _).cell (i := 1) rfl⟩))
    (first
      | (go_at_call 35; refine (signedI 0 (!t) C d m y.natAbs _ (hm.up (hup0.trans hupA)) Hm (by omega) hd (fun _ _ => Nat.zero_le _)).mono ?_; rintro e w3 ⟨⟨v3, rfl, hv3⟩, hup3⟩; replace hupA := hupA.trans hup3; rw [hneg.out] at hv3)
      | (go_at_call 47; refine (sum_any 0 0 _ _ x (-y) _ ⟨s, A, n, c, rfl, Hs, Hn, hl.up (hup0.trans hupA), hc, fun _ _ => Nat.zero_le _⟩ hv3 hx (by omega)).mono ?_; rintro e w2 ⟨v2, rfl, hv2, hup2⟩; replace hupA := hupA.trans hup2; rw [show x + -y = x - y by omega] at hv2; rw [show x + -y = x - y by omega]; obtain ⟨s2, A2, n2, c2, rfl, Hs2, Hn2, hl2, hc2, hnew2⟩ := hv2; have hb4 := hb3.up hupA; have f1 := hb4.cell (i := 0) rfl; have f2 := hb4.cell (i := 1) rfl; have f3 := hb4.frozen 0; have f4 := hb4.frozen 1))
  have hq := hb4.two (.bool s2) (.slice A2 n2 c2)
  have hnew3 : NewB (w.heap.size + 1 + 1 + 1) A2 := hnew2.mono (by have h1 := HSA.out; have h2 := hup3.size; omega)
  go_wp2
  refine bodyPost_ret (v := .tuple #[.agg #[.bool s2, .slice A2 n2 c2], .int .i64 (bndE (x - y))]) (by simp [results, Tryd.results20, go_sem, hq.1, hq.2]) rfl ⟨_, rfl, ⟨s2, A2, n2, c2, rfl, Hs2, Hn2, hl2.two hnew3 _ _, hc2, hnew3.mono (by omega)⟩, (hup0.trans hupA).two (by omega) _ _⟩

set_option maxHeartbeats 4000000 in
theorem mulI_any (B B' : Nat) (v v' : Value) (x y : Int) (w : World) (hv : IsInt B w v x) (hv' : IsInt B' w v' y) (hx : x.natAbs < top300) (hy : y.natAbs < top300) :
    Calls Tryd.prog 21 #[v, v'] w (RetIntE w (x * y)) := by
  obtain ⟨s, A, n, c, rfl, Hs, Hn, hl, hc, hN⟩ := hv
  obtain ⟨t, C, m, d, rfl, Ht, Hm, hm, hd, hN'⟩ := hv'
  obtain ⟨w0, hw0⟩ : ∃ w0, w0 = (((w.alloc (.cells #[.bool s, .slice A n c] 25)).alloc (.cells #[.bool t, .slice C m d] 25)).alloc (.cells #[.bool false, .slice none 0 0] 25)) := ⟨_, rfl⟩
  have hb1 : Bk w0 (w.heap.size) 25 #[.bool s, .slice A n c] := by
    have := ((Bk.new w 25 #[.bool s, .slice A n c]).alloc (.cells #[.bool t, .slice C m d] 25)).alloc (.cells #[.bool false, .slice none 0 0] 25)
    rw [hw0]; simpa using this
  have hb2 : Bk w0 (w.heap.size + 1) 25 #[.bool t, .slice C m d] := by
    have := (Bk.new (w.alloc (.cells #[.bool s, .slice A n c] 25)) 25 #[.bool t, .slice C m d]).alloc (.cells #[.bool false, .slice none 0 0] 25)
    rw [hw0]; simpa using this
  have hb3 : Bk w0 (w.heap.size + 1 + 1) 25 #[.bool false, .slice none 0 0] := by
    have := Bk.new ((w.alloc (.cells #[.bool s, .slice A n c] 25)).alloc (.cells #[.bool t, .slice C m d] 25)) 25 #[.bool false, .slice none 0 0]
    rw [hw0]; simpa using this
  have hup0 : Up w w0 := by rw [hw0]; exact (((Up.refl w).alloc _).alloc _).alloc _
  have hsz0 : w.heap.size + 3 ≤ w0.heap.size := by rw [hw0]; simp
  have Hw0 := hide hw0
  clear hw0
  have e1a := hb1.cell (i := 0) rfl
  have e1b := hb1.cell (i := 1) rfl
  have e2a := hb2.cell (i := 0) rfl
  have e2b := hb2.cell (i := 1) rfl
  have e3a := hb3.cell (i := 0) rfl
  have e3b := hb3.cell (i := 1) rfl
  have hn34 : n ≤ 34 := by rw [Hn.out]; exact len_of_top hx
  have hm34 : m ≤ 34 := by rw [Hm.out]; exact len_of_top hy
  have hsum := hide (sgn_mul Hs Ht)
  have hlen := hide (mul_small hx hy)
  go_enter Tryd.func21, Tryd.ntmps21
  go_wp2_with fail
  rw [← Hw0.out]
  refine (both_any B B' _ _ x y w0 ⟨s, A, n, c, rfl, Hs, Hn, hl.up hup0, hc, hN⟩ ⟨t, C, m, d, rfl, Ht, Hm, hm.up hup0, hd, hN'⟩ hx hy).mono ?_
  rintro e w1 ⟨rfl, hup1⟩
  have g1 := hup1.keep e1a
  have g2 := hup1.keep e1b
  have g3 := hup1.keep e2a
  have g4 := hup1.keep e2b
  go_wp2_with fail
  have hupA : Up w0 w1.drew := hup1.drew
  have HSA := hide (Nat.le_trans hsz0 hupA.size)
  go_region_held3 (fun w' => w'.cell? ⟨w.heap.size, 0, none⟩ = some (.bool s) ∧ w'.cell? ⟨w.heap.size, 1, none⟩ = some (.slice A n c) ∧ w'.cell? ⟨w.heap.size + 1, 0, none⟩ = some (.bool t) ∧ w'.cell? ⟨w.heap.size + 1, 1, none⟩ = some (.slice C m d))
    (first | (exact ⟨hupA.keep e1a, hupA.keep e1b, hupA.keep e2a, hupA.keep e2b⟩) | (exact ⟨((hb1.up hupA).far2 (by omega) _ _).cell (i := 0) rfl, ((hb1.up hupA).far2 (by omega) _ _).cell (i := 1) rfl, ((hb2.up hupA).far2 (by omega) _ _).cell (i := 0) rfl, ((hb2.up hupA).far2 (by omega) _ _).cell (i := 1) rfl⟩))
    (first
      | (go_at_call 49; refine (times_any A C c d x.natAbs y.natAbs _ (hl.up (hup0.trans hupA)) (hm.up (hup0.trans hupA)) n m Hn Hm (by omega) (by omega)).mono ?_; rintro e w3 ⟨A1, n1, c1, rfl, Hn1, hl1, hc1, hnew1, hup3⟩; replace hupA := hupA.trans hup3)
      | (go_at_call 48; refine (bounded_any (w.heap.size + 1 + 1 + 1) (s != t) A1 c1 n1 (x.natAbs * y.natAbs) _ hl1 Hn1 (by rw [Hn1.out]; have := hlen.out; omega) hc1 (hnew1.mono HSA.out)).mono ?_; rintro e w2 ⟨⟨v2, rfl, hv2⟩, hup2⟩; replace hupA := hupA.trans hup2; rw [hsum.out] at hv2; rw [hsum.out]; obtain ⟨s2, A2, n2, c2, rfl, Hs2, Hn2, hl2, hc2, hnew2⟩ := hv2; have hb4 := hb3.up hupA; have f1 := hb4.cell (i := 0) rfl; have f2 := hb4.cell (i := 1) rfl; have f3 := hb4.frozen 0; have f4 := hb4.frozen 1))
  have hq := hb4.two (.bool s2) (.slice A2 n2 c2)
  go_wp2
  refine bodyPost_ret (v := .tuple #[.agg #[.bool s2, .slice A2 n2 c2], .int .i64 (bndE (x * y))]) (by simp [results, Tryd.results21, go_sem, hq.1, hq.2]) rfl ⟨_, rfl, ⟨s2, A2, n2, c2, rfl, Hs2, Hn2, hl2.two hnew2 _ _, hc2, hnew2.mono (by omega)⟩, (hup0.trans hupA).two (by omega) _ _⟩

end Go.Proofs.YtnelnobcecnhlaaDoor
