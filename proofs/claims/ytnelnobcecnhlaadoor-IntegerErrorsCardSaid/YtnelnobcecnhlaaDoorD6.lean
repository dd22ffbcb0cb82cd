/- The program's bothValid, Sign, sum, Add, Sub, Mul on valid integers. -/
import Derived.Test.YtnelnobcecnhlaaDoorD5
import Derived.Test.YtnelnobcecnhlaaDoorC5
import Derived.Deep.RegionHeld3
namespace Go.Proofs.YtnelnobcecnhlaaDoor
open Go.RowKit

theorem rawValid_int {s : Bool} {z : Int} (hs : s = decide (z < 0)) (hz : z.natAbs < top300) : rawValid s (lim z.natAbs) = true := by
  unfold rawValid
  split
  · next h => rw [lim_len_zero] at h; rw [hs]; simp; omega
  · next h =>
    have hn : lim z.natAbs ≠ [] := fun e => h (by rw [e]; rfl)
    have h1 := lim_last z.natAbs _ (getLast_getD hn)
    have h2 := (digs_lim z.natAbs).2 hz
    have h3 := digB_iff.2 (dig_lim z.natAbs)
    rw [h3]; simp [h2]; simpa [List.getD] using h1

theorem validI_any (B : Nat) (v : Value) (x : Int) (w : World) (hv : IsInt B w v x) (hx : x.natAbs < top300) : Calls Tryd.prog 16 #[v] w fun e w' => e = .returned (.bool true) ∧ Up w w' := by
  obtain ⟨s, A, n, c, rfl, Hs, Hn, hl, hc, _⟩ := hv
  refine (valid_any s A c n _ w hl (dig_lim _).w32 Hn (by rw [Hn.out]; have := len_of_top hx; omega)).mono ?_
  rintro e w' ⟨rfl, hup⟩
  exact ⟨by rw [rawValid_int Hs.out hx], hup⟩

set_option maxHeartbeats 2000000 in
theorem both_any (B B' : Nat) (v v' : Value) (x y : Int) (w : World) (hv : IsInt B w v x) (hv' : IsInt B' w v' y) (hx : x.natAbs < top300) (hy : y.natAbs < top300) : Calls Tryd.prog 46 #[v, v'] w fun e w' => e = .returned (.bool true) ∧ Up w w' := by
  obtain ⟨s, A, n, c, rfl, Hs, Hn, hl, hc, hN⟩ := hv
  obtain ⟨t, C, m, d, rfl, Ht, Hm, hm, hd, hN'⟩ := hv'
  obtain ⟨w0, hw0⟩ : ∃ w0, w0 = ((w.alloc (.cells #[.bool s, .slice A n c] 25)).alloc (.cells #[.bool t, .slice C m d] 25)) := ⟨_, rfl⟩
  have hb1 : Bk w0 (w.heap.size) 25 #[.bool s, .slice A n c] := by
    have := (Bk.new w 25 #[.bool s, .slice A n c]).alloc (.cells #[.bool t, .slice C m d] 25)
    rw [hw0]; simpa using this
  have hb2 : Bk w0 (w.heap.size + 1) 25 #[.bool t, .slice C m d] := by
    have := Bk.new (w.alloc (.cells #[.bool s, .slice A n c] 25)) 25 #[.bool t, .slice C m d]
    rw [hw0]; simpa using this
  have hup0 : Up w w0 := by rw [hw0]; exact ((Up.refl w).alloc _).alloc _
  have hsz0 : w.heap.size + 2 ≤ w0.heap.size := by rw [hw0]; simp
  have Hw0 := hide hw0
  clear hw0
  have e1a := hb1.cell (i := 0) rfl
  have e1b := hb1.cell (i := 1) rfl
  have e2a := hb2.cell (i := 0) rfl
  have e2b := hb2.cell (i := 1) rfl
  go_enter Tryd.func46, Tryd.ntmps46
  go_wp2_with fail
  rw [← Hw0.out]
  refine (validI_any B _ x w0 ⟨s, A, n, c, rfl, Hs, Hn, hl.up hup0, hc, hN⟩ hx).mono ?_
  rintro e w1 ⟨rfl, hup1⟩
  have g1 := hup1.keep e2a
  have g2 := hup1.keep e2b
  go_wp2_with fail
  refine (validI_any B' _ y w1 ⟨t, C, m, d, rfl, Ht, Hm, hm.up (hup0.trans hup1), hd, hN'⟩ hy).mono ?_
  rintro e w2 ⟨rfl, hup2⟩
  go_wp2
  go_ret
  exact ⟨rfl, (hup0.trans hup1).trans hup2⟩

set_option maxHeartbeats 4000000 in
theorem sum_any (B B' : Nat) (v v' : Value) (x y : Int) (w : World) (hv : IsInt B w v x) (hv' : IsInt B' w v' y) (hx : x.natAbs < top300) (hy : y.natAbs < top300) :
    Calls Tryd.prog 47 #[v, v'] w (RetIntE w (x + y)) := by
  obtain ⟨s, A, n, c, rfl, Hs, Hn, hl, hc, _⟩ := hv
  obtain ⟨t, C, m, d, rfl, Ht, Hm, hm, hd, _⟩ := hv'
  have hn34 : n ≤ 34 := by rw [Hn.out]; exact len_of_top hx
  have hm34 : m ≤ 34 := by rw [Hm.out]; exact len_of_top hy
  obtain ⟨w0, hw0⟩ : ∃ w0, w0 = (((w.alloc (.cells #[.bool s, .slice A n c] 25)).alloc (.cells #[.bool t, .slice C m d] 25)).alloc (.cells #[.bool false, .slice none 0 0] 25)) := ⟨_, rfl⟩
  have hb1 : Bk w0 (w.heap.size) 25 #[.bool s, .slice A n c] := by
    have := ((Bk.new w 25 #[.bool s, .slice A n c]).alloc (.cells #[.bool t, .slice C m d] 25)).alloc (.cells #[.bool false, .slice none 0 0] 25)
    rw [hw0]; simpa using this
  have hb2 : Bk w0 (w.heap.size + 1) 25 #[.bool t, .slice C m d] := by
    have := (Bk.new (w.alloc (.cells #[.bool s, .slice A n c] 25)) 25 #[.bool t, .slice C m d]).alloc (.cells #[.bool false, .slice none 0 0] 25)
    rw [hw0]; simpa using this
  have hb3 : Bk w0 (w.heap.size + 1 + 1) 25 #[.bool false, .slice none 0 0] := by
    have := Bk.new ((w.alloc (.cells #[.bool s, .slice A n c] 25)).alloc (.cells #[.bool t, .slice C m d] 25)) 25 #[.bool false, .slice none 0 0]
    rw [hw0]; simpa using this
  have hup0 : Up w w0 := by rw [hw0]; exact (((Up.refl w).alloc _).alloc _).alloc _
  have hsz0 : w.heap.size + 3 ≤ w0.heap.size := by rw [hw0]; simp
  have Hw0 := hide hw0
  clear hw0
  have e1a := hb1.cell (i := 0) rfl
  have e1b := hb1.cell (i := 1) rfl
  have e2a := hb2.cell (i := 0) rfl
  have e2b := hb2.cell (i := 1) rfl
  have e3a := hb3.cell (i := 0) rfl
  have e3b := hb3.cell (i := 1) rfl
  have HSZ0 : Hid (w.heap.size + 1 + 1 + 1 ≤ w0.heap.size) := hsz0
  by_cases hst : s = t
  · subst hst
    have hsum : Hid (sgn s (x.natAbs + y.natAbs) = x + y) := by
      have h1 := Hs.out
      have h2 := Ht.out
      show _ = _
      unfold sgn
      by_cases hx0 : x < 0 <;> by_cases hy0 : y < 0 <;> simp [hx0, hy0] at h1 h2 <;> subst h1 <;> simp_all <;> omega
    have hlen : Hid ((lim (x.natAbs + y.natAbs)).length ≤ 100) := by
      show _ ≤ _
      rw [lim_len_le]
      have h1 : top300 + top300 ≤ bas 34 := by have : bas 34 = 1000000000 * bas 33 := rfl; unfold top300; omega
      have h2 : bas 34 ≤ bas 100 := bas_mono (by omega)
      omega
    have hss : (s == s) = true := by simp
    go_enter Tryd.func47, Tryd.ntmps47
    go_wp2_with fail
    rw [← Hw0.out]
    have hupA : Up w0 w0.drew := (Up.refl w0).drew
    have HSA := hide (Nat.le_trans HSZ0.out hupA.size)
    go_region_held3 (fun w' => w'.cell? ⟨w.heap.size, 0, none⟩ = some (.bool s) ∧ w'.cell? ⟨w.heap.size, 1, none⟩ = some (.slice A n c) ∧ w'.cell? ⟨w.heap.size + 1, 1, none⟩ = some (.slice C m d))
      (first | (exact ⟨hupA.keep e1a, hupA.keep e1b, hupA.keep e2b⟩) | (exact ⟨((hb1.up hupA).far2 (by omega) _ _).cell (i := 0) rfl, ((hb1.up hupA).far2 (by omega) _ _).cell (i := 1) rfl, ((hb2.up hupA).far2 (by omega) _ _).cell (i := 1) rfl⟩))
      (first
        | (go_at_call 66; refine (plus_any A C c d x.natAbs y.natAbs _ (hl.up (hup0.trans hupA)) (hm.up (hup0.trans hupA)) n m Hn Hm (by omega) (by omega)).mono ?_; rintro e w1 ⟨A1, n1, c1, rfl, Hn1, hl1, hc1, hnew1, hup1⟩; replace hupA := hupA.trans hup1)
        | (go_at_call 48; refine (bounded_any (w.heap.size + 1 + 1 + 1) s A1 c1 n1 (x.natAbs + y.natAbs) _ hl1 Hn1 (by rw [Hn1.out]; have := hlen.out; omega) hc1 (hnew1.mono HSA.out)).mono ?_; rintro e w2 ⟨⟨v2, rfl, hv2⟩, hup2⟩; replace hupA := hupA.trans hup2; rw [hsum.out] at hv2; rw [hsum.out]; obtain ⟨s2, A2, n2, c2, rfl, Hs2, Hn2, hl2, hc2, hnew2⟩ := hv2; have hb4 := hb3.up hupA; have f1 := hb4.cell (i := 0) rfl; have f2 := hb4.cell (i := 1) rfl; have f3 := hb4.frozen 0; have f4 := hb4.frozen 1))
    have hq := hb4.two (.bool s2) (.slice A2 n2 c2)
    go_wp2
    refine bodyPost_ret (v := .tuple #[.agg #[.bool s2, .slice A2 n2 c2], .int .i64 (bndE (x + y))]) (by simp [results, Tryd.results47, go_sem, hq.1, hq.2]) rfl ⟨_, rfl, ⟨s2, A2, n2, c2, rfl, Hs2, Hn2, hl2.two hnew2 _ _, hc2, hnew2.mono (by omega)⟩, (hup0.trans hupA).two (by omega) _ _⟩
  · have hst2 : (s == t) = false := by simp [hst]
    have hlen : ∀ k, k < top300 → (lim k).length ≤ 100 := fun k hk => Nat.le_trans (len_of_top hk) (by omega)
    rcases Nat.lt_or_ge x.natAbs y.natAbs with hlt | hge
    · have hsum : Hid (sgn t (y.natAbs - x.natAbs) = x + y) := by
        have h1 := Hs.out
        have h2 := Ht.out
        show _ = _
        unfold sgn
        by_cases hx0 : x < 0 <;> by_cases hy0 : y < 0 <;> simp [hx0, hy0] at h1 h2 <;> subst h1 <;> subst h2 <;> simp_all <;> omega
      replace hlen : Hid ((lim (y.natAbs - x.natAbs)).length ≤ 100) := hlen _ (by omega)
      have hc0 := cmpN_lt hlt
      have HLT := hide hlt
      clear hlt hst
      go_enter Tryd.func47, Tryd.ntmps47
      go_wp2_with fail
      rw [← Hw0.out]
      refine (compare_any A C c d x.natAbs y.natAbs _ (hl.up hup0) (hm.up hup0) n m Hn Hm (by omega) (by omega)).mono ?_
      rintro e w' ⟨rfl, q, rfl⟩
      rw [hc0]
      clear hc0
      go_wp2_with fail
      have hupA : Up w0 (w0.drewN q).drew := ((Up.refl w0).drewN q).drew
      have HSA := hide (Nat.le_trans HSZ0.out hupA.size)
      go_region_held3 (fun w' => w'.cell? ⟨w.heap.size + 1, 0, none⟩ = some (.bool t) ∧ w'.cell? ⟨w.heap.size + 1, 1, none⟩ = some (.slice C m d) ∧ w'.cell? ⟨w.heap.size, 1, none⟩ = some (.slice A n c))
        (first | (exact ⟨hupA.keep e2a, hupA.keep e2b, hupA.keep e1b⟩) | (exact ⟨((hb2.up hupA).far2 (by omega) _ _).cell (i := 0) rfl, ((hb2.up hupA).far2 (by omega) _ _).cell (i := 1) rfl, ((hb1.up hupA).far2 (by omega) _ _).cell (i := 1) rfl⟩))
        (first
          | (go_at_call 67; refine (minus_any C A d c y.natAbs x.natAbs _ (hm.up (hup0.trans hupA)) (hl.up (hup0.trans hupA)) m n Hm Hn (by omega) (Nat.le_of_lt HLT.out)).mono ?_; rintro e w1 ⟨A1, n1, c1, rfl, Hn1, hl1, hc1, hnew1, hup1⟩; replace hupA := hupA.trans hup1)
          | (go_at_call 48; refine (bounded_any (w.heap.size + 1 + 1 + 1) t A1 c1 n1 (y.natAbs - x.natAbs) _ hl1 Hn1 (by rw [Hn1.out]; have := hlen.out; omega) hc1 (hnew1.mono HSA.out)).mono ?_; rintro e w2 ⟨⟨v2, rfl, hv2⟩, hup2⟩; replace hupA := hupA.trans hup2; rw [hsum.out] at hv2; rw [hsum.out]; obtain ⟨s2, A2, n2, c2, rfl, Hs2, Hn2, hl2, hc2, hnew2⟩ := hv2; have hb4 := hb3.up hupA; have f1 := hb4.cell (i := 0) rfl; have f2 := hb4.cell (i := 1) rfl; have f3 := hb4.frozen 0; have f4 := hb4.frozen 1))
      have hq := hb4.two (.bool s2) (.slice A2 n2 c2)
      go_wp2
      refine bodyPost_ret (v := .tuple #[.agg #[.bool s2, .slice A2 n2 c2], .int .i64 (bndE (x + y))]) (by simp [results, Tryd.results47, go_sem, hq.1, hq.2]) rfl ⟨_, rfl, ⟨s2, A2, n2, c2, rfl, Hs2, Hn2, hl2.two hnew2 _ _, hc2, hnew2.mono (by omega)⟩, (hup0.trans hupA).two (by omega) _ _⟩
    · have hsum : Hid (sgn s (x.natAbs - y.natAbs) = x + y) := by
        have h1 := Hs.out
        have h2 := Ht.out
        show _ = _
        unfold sgn
        by_cases hx0 : x < 0 <;> by_cases hy0 : y < 0 <;> simp [hx0, hy0] at h1 h2 <;> subst h1 <;> subst h2 <;> simp_all <;> omega
      replace hlen : Hid ((lim (x.natAbs - y.natAbs)).length ≤ 100) := hlen _ (by omega)
      have hc0 : ¬ cmpN x.natAbs y.natAbs < 0 := by unfold cmpN; rw [if_neg (by omega)]; split <;> omega
      obtain ⟨z, hz⟩ : ∃ z, z = cmpN x.natAbs y.natAbs := ⟨_, rfl⟩
      rw [← hz] at hc0
      have HZ := hide hz
      have HGE := hide hge
      clear hge hst hz
      go_enter Tryd.func47, Tryd.ntmps47
      go_wp2_with fail
      rw [← Hw0.out]
      refine (compare_any A C c d x.natAbs y.natAbs _ (hl.up hup0) (hm.up hup0) n m Hn Hm (by omega) (by omega)).mono ?_
      rintro e w' ⟨rfl, q, rfl⟩
      rw [← HZ.out]
      go_wp2_with fail
      have hupA : Up w0 (w0.drewN q).drew := ((Up.refl w0).drewN q).drew
      have HSA := hide (Nat.le_trans HSZ0.out hupA.size)
      go_region_held3 (fun w' => w'.cell? ⟨w.heap.size, 0, none⟩ = some (.bool s) ∧ w'.cell? ⟨w.heap.size, 1, none⟩ = some (.slice A n c) ∧ w'.cell? ⟨w.heap.size + 1, 1, none⟩ = some (.slice C m d))
        (first | (exact ⟨hupA.keep e1a, hupA.keep e1b, hupA.keep e2b⟩) | (exact ⟨((hb1.up hupA).far2 (by omega) _ _).cell (i := 0) rfl, ((hb1.up hupA).far2 (by omega) _ _).cell (i := 1) rfl, ((hb2.up hupA).far2 (by omega) _ _).cell (i := 1) rfl⟩))
        (first
          | (go_at_call 67; refine (minus_any A C c d x.natAbs y.natAbs _ (hl.up (hup0.trans hupA)) (hm.up (hup0.trans hupA)) n m Hn Hm (by omega) HGE.out).mono ?_; rintro e w1 ⟨A1, n1, c1, rfl, Hn1, hl1, hc1, hnew1, hup1⟩; replace hupA := hupA.trans hup1)
          | (go_at_call 48; refine (bounded_any (w.heap.size + 1 + 1 + 1) s A1 c1 n1 (x.natAbs - y.natAbs) _ hl1 Hn1 (by rw [Hn1.out]; have := hlen.out; omega) hc1 (hnew1.mono HSA.out)).mono ?_; rintro e w2 ⟨⟨v2, rfl, hv2⟩, hup2⟩; replace hupA := hupA.trans hup2; rw [hsum.out] at hv2; rw [hsum.out]; obtain ⟨s2, A2, n2, c2, rfl, Hs2, Hn2, hl2, hc2, hnew2⟩ := hv2; have hb4 := hb3.up hupA; have f1 := hb4.cell (i := 0) rfl; have f2 := hb4.cell (i := 1) rfl; have f3 := hb4.frozen 0; have f4 := hb4.frozen 1))
      have hq := hb4.two (.bool s2) (.slice A2 n2 c2)
      go_wp2
      refine bodyPost_ret (v := .tuple #[.agg #[.bool s2, .slice A2 n2 c2], .int .i64 (bndE (x + y))]) (by simp [results, Tryd.results47, go_sem, hq.1, hq.2]) rfl ⟨_, rfl, ⟨s2, A2, n2, c2, rfl, Hs2, Hn2, hl2.two hnew2 _ _, hc2, hnew2.mono (by omega)⟩, (hup0.trans hupA).two (by omega) _ _⟩

set_option maxHeartbeats 2000000 in
theorem add_any (B B' : Nat) (v v' : Value) (x y : Int) (w : World) (hv : IsInt B w v x) (hv' : IsInt B' w v' y) (hx : x.natAbs < top300) (hy : y.natAbs < top300) :
    Calls Tryd.prog 19 #[v, v'] w (RetIntE w (x + y)) := by
  obtain ⟨s, A, n, c, rfl, Hs, Hn, hl, hc, hN⟩ := hv
  obtain ⟨t, C, m, d, rfl, Ht, Hm, hm, hd, hN'⟩ := hv'
  obtain ⟨w0, hw0⟩ : ∃ w0, w0 = (((w.alloc (.cells #[.bool s, .slice A n c] 25)).alloc (.cells #[.bool t, .slice C m d] 25)).alloc (.cells #[.bool false, .slice none 0 0] 25)) := ⟨_, rfl⟩
  have hb1 : Bk w0 (w.heap.size) 25 #[.bool s, .slice A n c] := by
    have := ((Bk.new w 25 #[.bool s, .slice A n c]).alloc (.cells #[.bool t, .slice C m d] 25)).alloc (.cells #[.bool false, .slice none 0 0] 25)
    rw [hw0]; simpa using this
  have hb2 : Bk w0 (w.heap.size + 1) 25 #[.bool t, .slice C m d] := by
    have := (Bk.new (w.alloc (.cells #[.bool s, .slice A n c] 25)) 25 #[.bool t, .slice C m d]).alloc (.cells #[.bool false, .slice none 0 0] 25)
    rw [hw0]; simpa using this
  have hb3 : Bk w0 (w.heap.size + 1 + 1) 25 #[.bool false, .slice none 0 0] := by
    have := Bk.new ((w.alloc (.cells #[.bool s, .slice A n c] 25)).alloc (.cells #[.bool t, .slice C m d] 25)) 25 #[.bool false, .slice none 0 0]
    rw [hw0]; simpa using this
  have hup0 : Up w w0 := by rw [hw0]; exact (((Up.refl w).alloc _).alloc _).alloc _
  have hsz0 : w.heap.size + 3 ≤ w0.heap.size := by rw [hw0]; simp
  have Hw0 := hide hw0
  clear hw0
  have e1a := hb1.cell (i := 0) rfl
  have e1b := hb1.cell (i := 1) rfl
  have e2a := hb2.cell (i := 0) rfl
  have e2b := hb2.cell (i := 1) rfl
  have e3a := hb3.cell (i := 0) rfl
  have e3b := hb3.cell (i := 1) rfl
  go_enter Tryd.func19, Tryd.ntmps19
  go_wp2_with fail
  rw [← Hw0.out]
  refine (both_any B B' _ _ x y w0 ⟨s, A, n, c, rfl, Hs, Hn, hl.up hup0, hc, hN⟩ ⟨t, C, m, d, rfl, Ht, Hm, hm.up hup0, hd, hN'⟩ hx hy).mono ?_
  rintro e w1 ⟨rfl, hup1⟩
  have g1 := hup1.keep e1a
  have g2 := hup1.keep e1b
  have g3 := hup1.keep e2a
  have g4 := hup1.keep e2b
  go_wp2_with fail
  refine (sum_any B B' _ _ x y w1 ⟨s, A, n, c, rfl, Hs, Hn, hl.up (hup0.trans hup1), hc, hN⟩ ⟨t, C, m, d, rfl, Ht, Hm, hm.up (hup0.trans hup1), hd, hN'⟩ hx hy).mono ?_
  rintro e w2 ⟨v2, rfl, hv2, hup2⟩
  obtain ⟨s2, A2, n2, c2, rfl, Hs2, Hn2, hl2, hc2, hnew2⟩ := hv2
  have hb4 := (hb3.up hup1).up hup2
  have f1 := hb4.cell (i := 0) rfl
  have f2 := hb4.cell (i := 1) rfl
  have f3 := hb4.frozen 0
  have f4 := hb4.frozen 1
  have hq := hb4.two (.bool s2) (.slice A2 n2 c2)
  have hnew3 : NewB (w.heap.size + 1 + 1 + 1) A2 := hnew2.mono (by have := hup1.size; omega)
  go_wp2
  refine bodyPost_ret (v := .tuple #[.agg #[.bool s2, .slice A2 n2 c2], .int .i64 (bndE (x + y))]) (by simp [results, Tryd.results19, go_sem, hq.1, hq.2]) rfl ⟨_, rfl, ⟨s2, A2, n2, c2, rfl, Hs2, Hn2, hl2.two hnew3 _ _, hc2, hnew3.mono (by omega)⟩, ((hup0.trans hup1).trans hup2).two (by omega) _ _⟩
end Go.Proofs.YtnelnobcecnhlaaDoor
