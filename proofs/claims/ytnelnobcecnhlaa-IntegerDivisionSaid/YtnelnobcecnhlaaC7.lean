/- The reference's Gcd, Div. -/
import Derived.Test.YtnelnobcecnhlaaC4
import Derived.Deep.LoopGhost
namespace Go.Proofs.Ytnelnobcecnhlaa
open Go.RowKit

set_option maxHeartbeats 4000000 in
theorem rgcdI_any (B B' : Nat) (v v' : Value) (x y : Int) (w : World) (hv : IsInt B w v x) (hv' : IsInt B' w v' y) (hx : x.natAbs < top300) (hy : y.natAbs < top300) :
    Calls Try.prog 34 #[v, v'] w (RetInt w (Nat.gcd x.natAbs y.natAbs : Nat)) := by
  obtain ⟨s, A, n, c, rfl, Hs, Hn, hl, hc, _⟩ := hv
  obtain ⟨t, C, m, d, rfl, Ht, Hm, hm, hd, _⟩ := hv'
  have hn34 : n ≤ 34 := by rw [Hn.out]; exact len_of_top hx
  have hm34 : m ≤ 34 := by rw [Hm.out]; exact len_of_top hy
  obtain ⟨w0, hw0⟩ : ∃ w0, w0 = (((w.alloc (.cells #[.bool s, .slice A n c] 24)).alloc (.cells #[.bool t, .slice C m d] 24)).alloc (.cells #[.bool false, .slice none 0 0] 24)) := ⟨_, rfl⟩
  have hb1 : Bk w0 (w.heap.size) 24 #[.bool s, .slice A n c] := by
    have := ((Bk.new w 24 #[.bool s, .slice A n c]).alloc (.cells #[.bool t, .slice C m d] 24)).alloc (.cells #[.bool false, .slice none 0 0] 24)
    rw [hw0]; simpa using this
  have hb2 : Bk w0 (w.heap.size + 1) 24 #[.bool t, .slice C m d] := by
    have := (Bk.new (w.alloc (.cells #[.bool s, .slice A n c] 24)) 24 #[.bool t, .slice C m d]).alloc (.cells #[.bool false, .slice none 0 0] 24)
    rw [hw0]; simpa using this
  have hb3 : Bk w0 (w.heap.size + 1 + 1) 24 #[.bool false, .slice none 0 0] := by
    have := Bk.new ((w.alloc (.cells #[.bool s, .slice A n c] 24)).alloc (.cells #[.bool t, .slice C m d] 24)) 24 #[.bool false, .slice none 0 0]
    rw [hw0]; simpa using this
  have hup0 : Up w w0 := by rw [hw0]; exact (((Up.refl w).alloc _).alloc _).alloc _
  have hsz0 : w.heap.size + 3 ≤ w0.heap.size := by rw [hw0]; simp
  have Hw0 := hide hw0
  clear hw0
  have e1a := hb1.cell (i := 0) rfl
  have e1b := hb1.cell (i := 1) rfl
  have e2a := hb2.cell (i := 0) rfl
  have e2b := hb2.cell (i := 1) rfl
  have e3a := hb3.cell (i := 0) rfl
  have e3b := hb3.cell (i := 1) rfl
  go_enter Try.func34, Try.ntmps34
  go_wp2_with fail
  rw [← Hw0.out]
  go_quiet (fail)
  have hupA : Up w0 (w0.drewN nq) := (Up.refl w0).drewN nq
  go_wp2
  go_loopg [5, 6] y.natAbs (fun g xv yv wr => ∃ (p l k c d : Nat) (X Y : Option Addr), xv = .slice X l c ∧ yv = .slice Y k d ∧ l ≤ c ∧ k ≤ d ∧ l = (lim p).length ∧ k = (lim g).length ∧ Lim wr X (lim p) ∧ Lim wr Y (lim g) ∧ Nat.gcd p g = Nat.gcd x.natAbs y.natAbs ∧ p < top300 ∧ g < top300 ∧ Up w0 wr)
  case atStart => exact ⟨x.natAbs, n, m, c, d, A, C, rfl, rfl, hc, hd, Hn.out, Hm.out, hl.up (hup0.trans hupA), hm.up (hup0.trans hupA), rfl, hx, hy, hupA⟩
  case round =>
    obtain ⟨p, l, k, c, d, X, Y, rfl, rfl, hlc, hkd, hl', hk', hlim1, hlim2, hg, hp, hq, hup⟩ := hrel
    have HL := hide hl'
    have HK := hide hk'
    have HG := hide hg
    clear hl' hk' hg
    have hl34 : l ≤ 34 := by rw [HL.out]; exact len_of_top hp
    have hk34 : k ≤ 34 := by rw [HK.out]; exact len_of_top hq
    by_cases hgo : 0 < k
    · have hg0 : 0 < gk := by
        rcases Nat.eq_zero_or_pos gk with h | h
        · have := HK.out; rw [h, lim_zero] at this; simp at this; omega
        · exact h
      have HM := hide (Nat.mod_lt p hg0)
      go_wp2_with (go_at_call 55; refine (rdiv_any X Y c d p gk _ hlim1 hlim2 l k HL HK (by omega) (by omega) hg0).mono ?_; rintro e w1 ⟨A1, n1, c1, A2, n2, c2, rfl, Hn1, Hn2, hl1, hl2, hc1, hc2, _, _, hup1⟩)
      go_roundg (p % gk)
      case measure => exact HM.out
      case rel =>
        refine ⟨gk, k, n2, d, c2, Y, A2, rfl, rfl, hkd, hc2, HK.out, Hn2.out, hlim2.up hup1, hl2, ?_, hq, by have := HM.out; omega, hup.trans hup1⟩
        rw [← HG.out, Nat.gcd_comm gk, Nat.gcd_comm p, Nat.gcd_rec gk p]
    · obtain rfl : k = 0 := by omega
      have hg0 : gk = 0 := by
        have := HK.out.symm; rw [lim_len_zero] at this; exact this
      have hsg : Hid (sgn false (val (lim p)) = ((Nat.gcd x.natAbs y.natAbs : Nat) : Int)) := by
        show _ = _
        rw [val_lim, ← HG.out, hg0, Nat.gcd_zero_right]; rfl
      have hgt : Hid (((Nat.gcd x.natAbs y.natAbs : Nat) : Int).natAbs < top300) := by
        show _ < _
        rw [← HG.out, hg0, Nat.gcd_zero_right]; simpa using hp
      obtain ⟨z, hz⟩ : ∃ z : Int, z = ((Nat.gcd x.natAbs y.natAbs : Nat) : Int) := ⟨_, rfl⟩
      rw [← hz] at hsg hgt ⊢
      have HZ := hide hz
      clear hz hg0
      go_wp2_with fail
      refine (make_any false X c (lim p) _ hlim1 (dig_lim _) l HL (by omega)).mono ?_
      rintro e w1 ⟨v1, rfl, hv1, hup1⟩
      rw [hsg.out] at hv1 ⊢
      rw [(bnd_ok hgt.out).1] at hv1
      obtain ⟨s1, A1, n1, c1, rfl, Hs1, Hn1, hl1', hc1, hnew1⟩ := hv1
      have hsz1 := hup.size
      have hnew2 : NewB (w.heap.size + 1 + 1 + 1) A1 := hnew1.mono (by omega)
      have hb4 := (hb3.up hup).up hup1
      have hlt := hb4.lt
      have f1 := hb4.cell (i := 0) rfl
      have f2 := hb4.cell (i := 1) rfl
      have f3 := hb4.frozen 0
      have f4 := hb4.frozen 1
      have hup2 := (hup0.trans hup).trans hup1
      have HQ := hide (fun o => ((hb4.two_bk (.bool s1) (.slice A1 n1 c1)).alloc o).cell (i := 0) rfl)
      have HQ2 := hide (fun o => ((hb4.two_bk (.bool s1) (.slice A1 n1 c1)).alloc o).cell (i := 1) rfl)
      clear hb1 hb2 hb3 e1a e1b e2a e2b e3a e3b hupA
      go_wp2
      refine bodyPost_ret (v := .agg #[.bool s1, .slice A1 n1 c1]) (by simp [results, Try.results34, go_sem, HQ.out, HQ2.out]) rfl (by rw [← HZ.out]; exact ⟨_, rfl, ⟨s1, A1, n1, c1, rfl, Hs1, Hn1, (hl1'.two hnew2 _ _).up ((Up.refl _).alloc _), hc1, hnew2.mono (by omega)⟩, (hup2.two (by omega) _ _).alloc _⟩)

/-- Two integers and an error. -/
def RetInt2 (w : World) (x y err : Int) (e : Ending) (w' : World) : Prop :=
  ∃ v v', e = .returned (.tuple #[v, v', .int .i64 err]) ∧ IsInt w.heap.size w' v x ∧ IsInt w.heap.size w' v' y ∧ Up w w'
theorem sgn_tdiv {s t : Bool} {x y : Int} (Hs : Hid (s = decide (x < 0))) (Ht : Hid (t = decide (y < 0))) : sgn (s != t) (x.natAbs / y.natAbs) = x.tdiv y := by
  have h1 := Hs.out
  have h2 := Ht.out
  have e : ∀ z : Int, z = if decide (z < 0) then -(z.natAbs : Int) else z.natAbs := fun z => by by_cases h : z < 0 <;> simp [h] <;> omega
  have ex := e x
  have ey := e y
  rw [← h1] at ex
  rw [← h2] at ey
  unfold sgn
  obtain ⟨p, hp⟩ : ∃ p, p = x.natAbs := ⟨_, rfl⟩
  obtain ⟨q, hq⟩ : ∃ q, q = y.natAbs := ⟨_, rfl⟩
  rw [← hp] at ex ⊢
  rw [← hq] at ey ⊢
  rw [ex, ey]
  cases s <;> cases t <;> simp [Int.neg_tdiv, Int.tdiv_neg]
theorem sgn_tmod {s : Bool} {x y : Int} (Hs : Hid (s = decide (x < 0))) : sgn s (x.natAbs % y.natAbs) = x.tmod y := by
  have h1 := Hs.out
  have e : ∀ z : Int, z = if decide (z < 0) then -(z.natAbs : Int) else z.natAbs := fun z => by by_cases h : z < 0 <;> simp [h] <;> omega
  have ex := e x
  have ey := e y
  rw [← h1] at ex
  unfold sgn
  obtain ⟨p, hp⟩ : ∃ p, p = x.natAbs := ⟨_, rfl⟩
  obtain ⟨q, hq⟩ : ∃ q, q = y.natAbs := ⟨_, rfl⟩
  rw [← hp] at ex ⊢
  rw [← hq] at ey ⊢
  rw [ex, ey]
  cases s <;> by_cases h : y < 0 <;> (simp [h, Int.neg_tmod, Int.tmod_neg]; exact (Int.tmod_eq_emod_of_nonneg (Int.natCast_nonneg _)).symm)

set_option maxHeartbeats 4000000 in
theorem rdivI_zero (B B' : Nat) (v v' : Value) (x y : Int) (w : World) (hv : IsInt B w v x) (hv' : IsInt B' w v' y) (_hx : x.natAbs < top300) (hy : y = 0) :
    Calls Try.prog 30 #[v, v'] w (RetInt2 w 0 0 8) := by
  obtain ⟨s, A, n, c, rfl, Hs, Hn, hl, hc, _⟩ := hv
  obtain ⟨t, C, m, d, rfl, Ht, Hm, hm, hd, _⟩ := hv'
  obtain rfl : m = 0 := by rw [Hm.out, hy]; simp [lim_zero]
  go_enter Try.func30, Try.ntmps30
  go_wp2
  refine bodyPost_ret (v := .tuple #[.agg #[.bool false, .slice none 0 0], .agg #[.bool false, .slice none 0 0], .int .i64 8]) (by simp [results, Try.results30, go_sem]) rfl ⟨_, _, rfl, IsInt.zero _ _, IsInt.zero _ _, ((((Up.refl w).alloc _).alloc _).alloc _).alloc _⟩

set_option maxHeartbeats 4000000 in
theorem rdivI_any (B B' : Nat) (v v' : Value) (x y : Int) (w : World) (hv : IsInt B w v x) (hv' : IsInt B' w v' y) (hx : x.natAbs < top300) (hy : y.natAbs < top300) (hy0 : y ≠ 0) :
    Calls Try.prog 30 #[v, v'] w (RetInt2 w (x.tdiv y) (x.tmod y) 0) := by
  obtain ⟨s, A, n, c, rfl, Hs, Hn, hl, hc, _⟩ := hv
  obtain ⟨t, C, m, d, rfl, Ht, Hm, hm, hd, _⟩ := hv'
  have hn34 : n ≤ 34 := by rw [Hn.out]; exact len_of_top hx
  have hm34 : m ≤ 34 := by rw [Hm.out]; exact len_of_top hy
  obtain ⟨w0, hw0⟩ : ∃ w0, w0 = ((((w.alloc (.cells #[.bool s, .slice A n c] 24)).alloc (.cells #[.bool t, .slice C m d] 24)).alloc (.cells #[.bool false, .slice none 0 0] 24)).alloc (.cells #[.bool false, .slice none 0 0] 24)) := ⟨_, rfl⟩
  have hb1 : Bk w0 (w.heap.size) 24 #[.bool s, .slice A n c] := by
    have := (((Bk.new w 24 #[.bool s, .slice A n c]).alloc (.cells #[.bool t, .slice C m d] 24)).alloc (.cells #[.bool false, .slice none 0 0] 24)).alloc (.cells #[.bool false, .slice none 0 0] 24)
    rw [hw0]; simpa using this
  have hb2 : Bk w0 (w.heap.size + 1) 24 #[.bool t, .slice C m d] := by
    have := ((Bk.new (w.alloc (.cells #[.bool s, .slice A n c] 24)) 24 #[.bool t, .slice C m d]).alloc (.cells #[.bool false, .slice none 0 0] 24)).alloc (.cells #[.bool false, .slice none 0 0] 24)
    rw [hw0]; simpa using this
  have hb3 : Bk w0 (w.heap.size + 1 + 1) 24 #[.bool false, .slice none 0 0] := by
    have := (Bk.new ((w.alloc (.cells #[.bool s, .slice A n c] 24)).alloc (.cells #[.bool t, .slice C m d] 24)) 24 #[.bool false, .slice none 0 0]).alloc (.cells #[.bool false, .slice none 0 0] 24)
    rw [hw0]; simpa using this
  have hb4 : Bk w0 (w.heap.size + 1 + 1 + 1) 24 #[.bool false, .slice none 0 0] := by
    have := Bk.new (((w.alloc (.cells #[.bool s, .slice A n c] 24)).alloc (.cells #[.bool t, .slice C m d] 24)).alloc (.cells #[.bool false, .slice none 0 0] 24)) 24 #[.bool false, .slice none 0 0]
    rw [hw0]; simpa using this
  have hup0 : Up w w0 := by rw [hw0]; exact ((((Up.refl w).alloc _).alloc _).alloc _).alloc _
  have hsz0 : w.heap.size + 4 ≤ w0.heap.size := by rw [hw0]; simp
  have Hw0 := hide hw0
  clear hw0
  have e1a := hb1.cell (i := 0) rfl
  have e1b := hb1.cell (i := 1) rfl
  have e2a := hb2.cell (i := 0) rfl
  have e2b := hb2.cell (i := 1) rfl
  have e3a := hb3.cell (i := 0) rfl
  have e3b := hb3.cell (i := 1) rfl
  have e4a := hb4.cell (i := 0) rfl
  have e4b := hb4.cell (i := 1) rfl
  have hq := hide (sgn_tdiv Hs Ht)
  have hr := hide (sgn_tmod (s := s) (x := x) (y := y) Hs)
  have hyn : 0 < y.natAbs := by omega
  have hm0 : 0 < m := by rw [Hm.out]; exact Nat.pos_of_ne_zero fun e => by rw [lim_len_zero] at e; omega
  have hmb : ((m : Int) == 0) = false := by rw [beq_eq_false_iff_ne]; omega
  have hqt := hide (Nat.lt_of_le_of_lt (Nat.div_le_self x.natAbs y.natAbs) hx)
  have hrt := hide (Nat.lt_of_le_of_lt (Nat.mod_le x.natAbs y.natAbs) hx)
  go_enter Try.func30, Try.ntmps30
  go_wp2_with fail
  rw [← Hw0.out]
  refine (rdiv_any A C c d x.natAbs y.natAbs _ (hl.up hup0) (hm.up hup0) n m Hn Hm (by omega) (by omega) hyn).mono ?_
  rintro e w1 ⟨A1, n1, c1, A2, n2, c2, rfl, Hn1, Hn2, hl1, hl2, hc1, hc2, _, _, hup1⟩
  have g1 := hup1.keep e1a
  have g2 := hup1.keep e2a
  go_wp2_with fail
  refine (make_any (s != t) A1 c1 _ _ hl1 (dig_lim _) n1 Hn1 (by rw [Hn1.out]; have := len_of_top hqt.out; omega)).mono ?_
  rintro e w2 ⟨v2, rfl, hv2, hup2⟩
  rw [val_lim, hq.out] at hv2
  rw [val_lim, hq.out]
  have hqq : (x.tdiv y).natAbs < top300 := by rw [← hq.out, sgn_abs]; exact hqt.out
  rw [(bnd_ok hqq).1] at hv2
  clear hqq
  obtain ⟨s3, A3, n3, c3, rfl, Hs3, Hn3, hl3, hc3, hnew3⟩ := hv2
  have g3 := hup2.keep g1
  have hsz1 := hup1.size
  have hsz2 := hup2.size
  have hlt2 : w.heap.size < w2.heap.size := by omega
  go_wp2_with fail
  have hl2' := (hl2.up hup2).up ((Up.refl w2).alloc (.cells #[.bool s3, .slice A3 n3 c3] 24))
  refine (make_any s A2 c2 _ _ hl2' (dig_lim _) n2 Hn2 (by rw [Hn2.out]; have := len_of_top hrt.out; omega)).mono ?_
  rintro e w3 ⟨v4, rfl, hv4, hup3⟩
  rw [val_lim, hr.out] at hv4
  rw [val_lim, hr.out]
  have hrr : (x.tmod y).natAbs < top300 := by rw [← hr.out, sgn_abs]; exact hrt.out
  rw [(bnd_ok hrr).1] at hv4
  clear hrr
  obtain ⟨s4, A4, n4, c4, rfl, Hs4, Hn4, hl4, hc4, hnew4⟩ := hv4
  have hbX : Bk w3 w2.heap.size 24 #[.bool s3, .slice A3 n3 c3] := (Bk.new w2 _ _).up hup3
  have hl3' := (hl3.up ((Up.refl w2).alloc (.cells #[.bool s3, .slice A3 n3 c3] 24))).up hup3
  have hup4 := (((hup1.trans hup2).alloc (.cells #[.bool s3, .slice A3 n3 c3] 24)).trans hup3).alloc (.cells #[.bool s4, .slice A4 n4 c4] 24)
  have hsz3 := hup3.size
  rw [World.size_alloc] at hsz3
  obtain ⟨w5, hw5⟩ : ∃ w5, w5 = w3.alloc (.cells #[.bool s4, .slice A4 n4 c4] 24) := ⟨_, rfl⟩
  have hb5 := (hb3.up hup4)
  have hb6 := (hb4.up hup4)
  have hb7 := hbX.alloc (.cells #[.bool s4, .slice A4 n4 c4] 24)
  have hb8 : Bk w5 w3.heap.size 24 #[.bool s4, .slice A4 n4 c4] := by rw [hw5]; exact Bk.new _ _ _
  have hl5 := hl3'.up ((Up.refl w3).alloc (.cells #[.bool s4, .slice A4 n4 c4] 24))
  have hl6 := hl4.up ((Up.refl w3).alloc (.cells #[.bool s4, .slice A4 n4 c4] 24))
  rw [← hw5] at hb5 hb6 hb7 hl5 hl6 hup4
  have HW5 := hide hw5
  have f1 := hb5.cell (i := 0) rfl
  have f2 := hb5.cell (i := 1) rfl
  have f3 := hb6.cell (i := 0) rfl
  have f4 := hb6.cell (i := 1) rfl
  have f5 := hb7.cell (i := 0) rfl
  have f6 := hb7.cell (i := 1) rfl
  have f7 := hb8.cell (i := 0) rfl
  have f8 := hb8.cell (i := 1) rfl
  have p1 := hb5.frozen 0
  have p2 := hb5.frozen 1
  have p3 := hb6.frozen 0
  have p4 := hb6.frozen 1
  clear hw5 hb1 hb2 e1a e1b e2a e2b e3a e3b e4a e4b g1 g2 hl1 hl2 hl2' hl3 hl3' hl4 hbX
  go_wp2_with fail
  rw [← HW5.out]
  go_region
  go_wp2
  have hQ1 := (hb5.two_bk (.bool s3) (.slice A3 n3 c3)).far2 (g' := w.heap.size + 1 + 1 + 1) (by omega) (.bool s4) (.slice A4 n4 c4)
  have hQ2 := (hb6.far2 (g' := w.heap.size + 1 + 1) (by omega) (.bool s3) (.slice A3 n3 c3)).two_bk (.bool s4) (.slice A4 n4 c4)
  have q1 := hQ1.cell (i := 0) rfl
  have q2 := hQ1.cell (i := 1) rfl
  have q3 := hQ2.cell (i := 0) rfl
  have q4 := hQ2.cell (i := 1) rfl
  have hnX : NewB (w.heap.size + 1 + 1 + 1 + 1) A3 := hnew3.mono (by omega)
  have hnY : NewB (w.heap.size + 1 + 1 + 1 + 1) A4 := hnew4.mono (by rw [World.size_alloc]; omega)
  refine bodyPost_ret (v := .tuple #[.agg #[.bool s3, .slice A3 n3 c3], .agg #[.bool s4, .slice A4 n4 c4], .int .i64 0]) (by simp [results, Try.results30, go_sem, q1, q2, q3, q4]) rfl
    ⟨_, _, rfl, ⟨s3, A3, n3, c3, rfl, Hs3, Hn3, (((hl5.two (hnX.mono (by omega)) _ _).two hnX _ _).up ((Up.refl _).drew)), hc3, hnX.mono (by omega)⟩, ⟨s4, A4, n4, c4, rfl, Hs4, Hn4, (((hl6.two (hnY.mono (by omega)) _ _).two hnY _ _).up ((Up.refl _).drew)), hc4, hnY.mono (by omega)⟩, ?_⟩
  exact ((((hup0.trans hup4).two (by omega) _ _).two (by omega) _ _)).drew
end Go.Proofs.Ytnelnobcecnhlaa
