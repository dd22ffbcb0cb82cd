/- The reference's Sub, Mul, Abs. -/
import Derived.Test.YtnelnobcecnhlaaC3
namespace Go.Proofs.Ytnelnobcecnhlaa
open Go.RowKit

set_option maxHeartbeats 4000000 in
theorem rsubI_any (B B' : Nat) (v v' : Value) (x y : Int) (w : World) (hv : IsInt B w v x) (hv' : IsInt B' w v' y) (hx : x.natAbs < top300) (hy : y.natAbs < top300) :
    Calls Try.prog 26 #[v, v'] w (RetIntE w (x - y)) := by
  obtain ⟨s, A, n, c, rfl, Hs, Hn, hl, hc, _⟩ := hv
  obtain ⟨t, C, m, d, rfl, Ht, Hm, hm, hd, _⟩ := hv'
  have hn34 : n ≤ 34 := by rw [Hn.out]; exact len_of_top hx
  have hm34 : m ≤ 34 := by rw [Hm.out]; exact len_of_top hy
  obtain ⟨w0, hw0⟩ : ∃ w0, w0 = (((w.alloc (.cells #[.bool s, .slice A n c] 24)).alloc (.cells #[.bool t, .slice C m d] 24)).alloc (.cells #[.bool false, .slice none 0 0] 24)) := ⟨_, rfl⟩
  have hb1 : Bk w0 (w.heap.size) 24 #[.bool s, .slice A n c] := by
    have := ((Bk.new w 24 #[.bool s, .slice A n c]).alloc (.cells #[.bool t, .slice C m d] 24)).alloc (.cells #[.bool false, .slice none 0 0] 24)
    rw [hw0]; simpa using this
  have hb2 : Bk w0 (w.heap.size + 1) 24 #[.bool t, .slice C m d] := by
    have := (Bk.new (w.alloc (.cells #[.bool s, .slice A n c] 24)) 24 #[.bool t, .slice C m d]).alloc (.cells #[.bool false, .slice none 0 0] 24)
    rw [hw0]; simpa using this
  have hb3 : Bk w0 (w.heap.size + 1 + 1) 24 #[.bool false, .slice none 0 0] := by
    have := Bk.new ((w.alloc (.cells #[.bool s, .slice A n c] 24)).alloc (.cells #[.bool t, .slice C m d] 24)) 24 #[.bool false, .slice none 0 0]
    rw [hw0]; simpa using this
  have hup0 : Up w w0 := by rw [hw0]; exact (((Up.refl w).alloc _).alloc _).alloc _
  have hsz0 : w.heap.size + 3 ≤ w0.heap.size := by rw [hw0]; simp
  have Hw0 := hide hw0
  clear hw0
  have e1a := hb1.cell (i := 0) rfl
  have e1b := hb1.cell (i := 1) rfl
  have e2a := hb2.cell (i := 0) rfl
  have e2b := hb2.cell (i := 1) rfl
  have e3a := hb3.cell (i := 0) rfl
  have e3b := hb3.cell (i := 1) rfl
  go_enter Try.func26, Try.ntmps26
  go_wp2_with fail
  rw [← Hw0.out]
  have hupA : Up w0 w0.drew := (Up.refl w0).drew
  go_region_held3 (fun w' => w'.cell? ⟨w.heap.size, 0, none⟩ = some (.bool s) ∧ w'.cell? ⟨w.heap.size, 1, none⟩ = some (.slice A n c) ∧ w'.cell? ⟨w.heap.size + 1, 0, none⟩ = some (.bool t) ∧ w'.cell? ⟨w.heap.size + 1, 1, none⟩ = some (.slice C m d))
    (first | (exact ⟨hupA.keep e1a, hupA.keep e1b, hupA.keep e2a, hupA.keep e2b⟩) | (exact ⟨((hb1.up hupA).far2 (by omega) _ _).cell (i := 0) rfl, ((hb1.up hupA).far2 (by omega) _ _).cell (i := 1) rfl, ((hb2.up hupA).far2 (by omega) _ _).cell (i := 0) rfl, ((hb2.up hupA).far2 (by omega) _ _).cell (i := 1) rfl⟩))
    (first
      | (go_at_call 50; refine (neg_any 0 _ y _ ⟨t, C, m, d, rfl, Ht, Hm, hm.up (hup0.trans hupA), hd, fun _ _ => Nat.zero_le _⟩ hy).mono ?_; rintro e w1 ⟨v1, rfl, hv1, hup1⟩; replace hupA := hupA.trans hup1)
      | (go_at_call 24; refine (raddI_any 0 _ _ v1 x (-y) _ ⟨s, A, n, c, rfl, Hs, Hn, hl.up (hup0.trans hupA), hc, fun _ _ => Nat.zero_le _⟩ hv1 hx (by omega)).mono ?_; rintro e w2 ⟨v2, rfl, hv2, hup2⟩; replace hupA := hupA.trans hup2; rw [show x + -y = x - y by omega] at hv2; rw [show x + -y = x - y by omega]; obtain ⟨s2, A2, n2, c2, rfl, Hs2, Hn2, hl2, hc2, hnew2⟩ := hv2; have hb4 := hb3.up hupA; have f1 := hb4.cell (i := 0) rfl; have f2 := hb4.cell (i := 1) rfl; have f3 := hb4.frozen 0; have f4 := hb4.frozen 1))
  have hq := hb4.two (.bool s2) (.slice A2 n2 c2)
  have hnew3 : NewB (w.heap.size + 1 + 1 + 1) A2 := hnew2.mono (by have := Nat.le_trans hsz0 hup1.size; omega)
  go_wp2
  refine bodyPost_ret (v := .tuple #[.agg #[.bool s2, .slice A2 n2 c2], .int .i64 (bndE (x - y))]) (by simp [results, Try.results26, go_sem, hq.1, hq.2]) rfl ⟨_, rfl, ⟨s2, A2, n2, c2, rfl, Hs2, Hn2, hl2.two hnew3 _ _, hc2, hnew3.mono (by omega)⟩, (hup0.trans hupA).two (by omega) _ _⟩

theorem sgn_mul {s t : Bool} {x y : Int} (Hs : Hid (s = decide (x < 0))) (Ht : Hid (t = decide (y < 0))) : sgn (s != t) (x.natAbs * y.natAbs) = x * y := by
  have h1 := Hs.out
  have h2 := Ht.out
  have e : ∀ z : Int, z = if decide (z < 0) then -(z.natAbs : Int) else z.natAbs := fun z => by by_cases h : z < 0 <;> simp [h] <;> omega
  have ex := e x
  have ey := e y
  rw [← h1] at ex
  rw [← h2] at ey
  unfold sgn
  obtain ⟨p, hp⟩ : ∃ p, p = x.natAbs := ⟨_, rfl⟩
  obtain ⟨q, hq⟩ : ∃ q, q = y.natAbs := ⟨_, rfl⟩
  rw [← hp] at ex ⊢
  rw [← hq] at ey ⊢
  rw [ex, ey]
  cases s <;> cases t <;> simp [Int.neg_mul, Int.mul_neg]
theorem mul_small {x y : Nat} (hx : x < top300) (hy : y < top300) : (lim (x * y)).length ≤ 100 := by
  rw [lim_len_le]
  have h1 : top300 ≤ bas 34 := by have : bas 34 = 1000000000 * bas 33 := rfl; unfold top300; omega
  have h2 : x * y ≤ bas 34 * bas 34 := Nat.mul_le_mul (by omega) (by omega)
  rw [← bas_add] at h2
  have h3 : bas 69 ≤ bas 100 := bas_mono (by omega)
  have h4 : bas 69 = 1000000000 * bas 68 := rfl
  have h5 := bas_pos 68
  have h6 : bas (34 + 34) = bas 68 := rfl
  omega

set_option maxHeartbeats 4000000 in
theorem rmulI_any (B B' : Nat) (v v' : Value) (x y : Int) (w : World) (hv : IsInt B w v x) (hv' : IsInt B' w v' y) (hx : x.natAbs < top300) (hy : y.natAbs < top300) :
    Calls Try.prog 28 #[v, v'] w (RetIntE w (x * y)) := by
  obtain ⟨s, A, n, c, rfl, Hs, Hn, hl, hc, _⟩ := hv
  obtain ⟨t, C, m, d, rfl, Ht, Hm, hm, hd, _⟩ := hv'
  have hn34 : n ≤ 34 := by rw [Hn.out]; exact len_of_top hx
  have hm34 : m ≤ 34 := by rw [Hm.out]; exact len_of_top hy
  obtain ⟨w0, hw0⟩ : ∃ w0, w0 = (((w.alloc (.cells #[.bool s, .slice A n c] 24)).alloc (.cells #[.bool t, .slice C m d] 24)).alloc (.cells #[.bool false, .slice none 0 0] 24)) := ⟨_, rfl⟩
  have hb1 : Bk w0 (w.heap.size) 24 #[.bool s, .slice A n c] := by
    have := ((Bk.new w 24 #[.bool s, .slice A n c]).alloc (.cells #[.bool t, .slice C m d] 24)).alloc (.cells #[.bool false, .slice none 0 0] 24)
    rw [hw0]; simpa using this
  have hb2 : Bk w0 (w.heap.size + 1) 24 #[.bool t, .slice C m d] := by
    have := (Bk.new (w.alloc (.cells #[.bool s, .slice A n c] 24)) 24 #[.bool t, .slice C m d]).alloc (.cells #[.bool false, .slice none 0 0] 24)
    rw [hw0]; simpa using this
  have hb3 : Bk w0 (w.heap.size + 1 + 1) 24 #[.bool false, .slice none 0 0] := by
    have := Bk.new ((w.alloc (.cells #[.bool s, .slice A n c] 24)).alloc (.cells #[.bool t, .slice C m d] 24)) 24 #[.bool false, .slice none 0 0]
    rw [hw0]; simpa using this
  have hup0 : Up w w0 := by rw [hw0]; exact (((Up.refl w).alloc _).alloc _).alloc _
  have hsz0 : w.heap.size + 3 ≤ w0.heap.size := by rw [hw0]; simp
  have Hw0 := hide hw0
  clear hw0
  have e1a := hb1.cell (i := 0) rfl
  have e1b := hb1.cell (i := 1) rfl
  have e2a := hb2.cell (i := 0) rfl
  have e2b := hb2.cell (i := 1) rfl
  have e3a := hb3.cell (i := 0) rfl
  have e3b := hb3.cell (i := 1) rfl
  have hsum := hide (sgn_mul Hs Ht)
  have hlen := hide (mul_small hx hy)
  go_enter Try.func28, Try.ntmps28
  go_wp2_with fail
  rw [← Hw0.out]
  have hupA : Up w0 w0.drew := (Up.refl w0).drew
  go_region_held3 (fun w' => w'.cell? ⟨w.heap.size, 0, none⟩ = some (.bool s) ∧ w'.cell? ⟨w.heap.size, 1, none⟩ = some (.slice A n c) ∧ w'.cell? ⟨w.heap.size + 1, 0, none⟩ = some (.bool t) ∧ w'.cell? ⟨w.heap.size + 1, 1, none⟩ = some (.slice C m d))
    (first | (exact ⟨hupA.keep e1a, hupA.keep e1b, hupA.keep e2a, hupA.keep e2b⟩) | (exact ⟨((hb1.up hupA).far2 (by omega) _ _).cell (i := 0) rfl, ((hb1.up hupA).far2 (by omega) _ _).cell (i := 1) rfl, ((hb2.up hupA).far2 (by omega) _ _).cell (i := 0) rfl, ((hb2.up hupA).far2 (by omega) _ _).cell (i := 1) rfl⟩))
    (first
      | (go_at_call 53; refine (rmul_any A C c d x.natAbs y.natAbs _ (hl.up (hup0.trans hupA)) (hm.up (hup0.trans hupA)) n m Hn Hm (by omega) (by omega)).mono ?_; rintro e w1 ⟨A1, n1, c1, rfl, Hn1, hl1, hc1, hnew1, hup1⟩; replace hupA := hupA.trans hup1)
      | (go_at_call 40; refine (make_any (s != t) A1 c1 (lim (x.natAbs * y.natAbs)) _ hl1 (dig_lim _) n1 Hn1 (by rw [Hn1.out]; have := hlen.out; omega)).mono ?_; rintro e w2 ⟨v2, rfl, hv2, hup2⟩; replace hupA := hupA.trans hup2; rw [val_lim, hsum.out] at hv2; rw [val_lim, hsum.out]; obtain ⟨s2, A2, n2, c2, rfl, Hs2, Hn2, hl2, hc2, hnew2⟩ := hv2; have hb4 := hb3.up hupA; have f1 := hb4.cell (i := 0) rfl; have f2 := hb4.cell (i := 1) rfl; have f3 := hb4.frozen 0; have f4 := hb4.frozen 1))
  have hq := hb4.two (.bool s2) (.slice A2 n2 c2)
  have hnew3 : NewB (w.heap.size + 1 + 1 + 1) A2 := hnew2.mono (by have := Nat.le_trans hsz0 hup1.size; omega)
  go_wp2
  refine bodyPost_ret (v := .tuple #[.agg #[.bool s2, .slice A2 n2 c2], .int .i64 (bndE (x * y))]) (by simp [results, Try.results28, go_sem, hq.1, hq.2]) rfl ⟨_, rfl, ⟨s2, A2, n2, c2, rfl, Hs2, Hn2, hl2.two hnew3 _ _, hc2, hnew3.mono (by omega)⟩, (hup0.trans hupA).two (by omega) _ _⟩

set_option maxHeartbeats 2000000 in
theorem abs_any (B : Nat) (v : Value) (x : Int) (w : World) (hv : IsInt B w v x) (hx : x.natAbs < top300) :
    Calls Try.prog 32 #[v] w (RetInt w x.natAbs) := by
  obtain ⟨s, A, n, c, rfl, Hs, Hn, hl, hc, _⟩ := hv
  have hn34 : n ≤ 34 := by rw [Hn.out]; exact len_of_top hx
  obtain ⟨w0, hw0⟩ : ∃ w0, w0 = ((w.alloc (.cells #[.bool s, .slice A n c] 24)).alloc (.cells #[.bool false, .slice none 0 0] 24)) := ⟨_, rfl⟩
  have hb1 : Bk w0 (w.heap.size) 24 #[.bool s, .slice A n c] := by
    have := (Bk.new w 24 #[.bool s, .slice A n c]).alloc (.cells #[.bool false, .slice none 0 0] 24)
    rw [hw0]; simpa using this
  have hb2 : Bk w0 (w.heap.size + 1) 24 #[.bool false, .slice none 0 0] := by
    have := Bk.new (w.alloc (.cells #[.bool s, .slice A n c] 24)) 24 #[.bool false, .slice none 0 0]
    rw [hw0]; simpa using this
  have hup0 : Up w w0 := by rw [hw0]; exact ((Up.refl w).alloc _).alloc _
  have hsz0 : w.heap.size + 2 ≤ w0.heap.size := by rw [hw0]; simp
  have Hw0 := hide hw0
  clear hw0
  have e1a := hb1.cell (i := 0) rfl
  have e1b := hb1.cell (i := 1) rfl
  have e2a := hb2.cell (i := 0) rfl
  have e2b := hb2.cell (i := 1) rfl
  have hsg : Hid (sgn false (val (lim x.natAbs)) = (x.natAbs : Int)) := by show _ = _; rw [val_lim]; rfl
  go_enter Try.func32, Try.ntmps32
  go_wp2_with fail
  rw [← Hw0.out]
  refine (make_any false A c (lim x.natAbs) _ (hl.up hup0) (dig_lim _) n Hn (by omega)).mono ?_
  rintro e w1 ⟨v1, rfl, hv1, hup1⟩
  rw [hsg.out] at hv1 ⊢
  rw [(bnd_ok (z := (x.natAbs : Int)) (by omega)).1] at hv1
  obtain ⟨s1, A1, n1, c1, rfl, Hs1, Hn1, hl1', hc1, hnew1⟩ := hv1
  have hnew2 : NewB (w.heap.size + 1 + 1) A1 := hnew1.mono (by omega)
  have hb4 := hb2.up hup1
  have hlt := hb4.lt
  have f1 := hb4.cell (i := 0) rfl
  have f2 := hb4.cell (i := 1) rfl
  have f3 := hb4.frozen 0
  have f4 := hb4.frozen 1
  have hup2 := hup0.trans hup1
  have HQ := hide (fun o => ((hb4.two_bk (.bool s1) (.slice A1 n1 c1)).alloc o).cell (i := 0) rfl)
  have HQ2 := hide (fun o => ((hb4.two_bk (.bool s1) (.slice A1 n1 c1)).alloc o).cell (i := 1) rfl)
  clear hb1 hb2 e1a e1b e2a e2b
  go_wp2
  refine bodyPost_ret (v := .agg #[.bool s1, .slice A1 n1 c1]) (by simp [results, Try.results32, go_sem, HQ.out, HQ2.out]) rfl ⟨_, rfl, ⟨s1, A1, n1, c1, rfl, Hs1, Hn1, (hl1'.two hnew2 _ _).up ((Up.refl _).alloc _), hc1, hnew2.mono (by omega)⟩, (hup2.two (by omega) _ _).alloc _⟩

end Go.Proofs.Ytnelnobcecnhlaa
