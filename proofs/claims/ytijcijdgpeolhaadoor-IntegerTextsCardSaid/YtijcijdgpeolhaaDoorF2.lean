/- The program's common and Gcd. -/
import Derived.Test.YtijcijdgpeolhaaDoorF1
import Derived.Test.YtijcijdgpeolhaaDoorD6
import Derived.Deep.LoopGhost
namespace Go.Proofs.YtijcijdgpeolhaaDoor
open Go.RowKit

theorem small_two {x n : Nat} (Hn : Hid (n = (lim x).length)) (h : n ≤ 2) : x ≤ 18446744073709551615 := by
  have h1 := Hn.out
  have h2 : x < bas 2 := lim_len_le.1 (by omega)
  have h3 : bas 2 = 1000000000000000000 := rfl
  omega

set_option maxHeartbeats 4000000 in
theorem common_any (A B : Option Addr) (ca cb a b : Nat) (w : World) (hA : Lim w A (lim a)) (hB : Lim w B (lim b)) (n m : Nat) (Hn : Hid (n = (lim a).length)) (Hm : Hid (m = (lim b).length)) (hn : n ≤ 1000) (hm : m ≤ 1000) (HL : LongSaid ∨ (n ≤ 2 ∧ m ≤ 2)) :
    Calls Tryd.prog 43 #[.slice A n ca, .slice B m cb] w (RetLim w (Nat.gcd a b)) := by
  go_enter Tryd.func43, Tryd.ntmps43
  go_wp2_with fail
  refine (clone_any A ca n (lim a) _ hA Hn (by omega)).mono ?_
  rintro e w1 ⟨v1, n1, rfl, Hn1, hown1, hup1⟩
  obtain ⟨A1, c1, rfl, hc1, hl1, hnew1⟩ := hown1.lim
  obtain rfl : n1 = n := Hn1.out.trans Hn.out.symm
  go_wp2_with fail
  refine (clone_any B cb m (lim b) _ (hB.up hup1) Hm (by omega)).mono ?_
  rintro e w2 ⟨v2, m1, rfl, Hm1, hown2, hup2⟩
  obtain ⟨A2, c2, rfl, hc2, hl2, hnew2⟩ := hown2.lim
  obtain rfl : m1 = m := Hm1.out.trans Hm.out.symm
  have HL2 := hide HL
  have HN := hide hnew1
  have hl1' := hl1.up hup2
  have HN2 : NewB w.heap.size A2 := hnew2.mono hup1.size
  have hup3 := hup1.trans hup2
  clear HL hown1 hown2 hl1 hup1 hup2 hnew2
  go_wp2
  go_loopg [0, 1] b (fun g xv yv wr => ∃ (p l k c d : Nat) (X Y : Option Addr), xv = .slice X l c ∧ yv = .slice Y k d ∧ l ≤ c ∧ k ≤ d ∧ l ≤ 1000 ∧ k ≤ 1000 ∧ l = (lim p).length ∧ k = (lim g).length ∧ Lim wr X (lim p) ∧ Lim wr Y (lim g) ∧ Nat.gcd p g = Nat.gcd a b ∧ NewB w.heap.size X ∧ NewB w.heap.size Y ∧ Up w wr ∧ Hid (LongSaid ∨ (l ≤ 2 ∧ k ≤ 2)))
  case atStart => exact ⟨a, n1, m1, c1, c2, A1, A2, rfl, rfl, hc1, hc2, hn, hm, Hn.out, Hm.out, hl1', hl2, rfl, HN.out, HN2, hup3, HL2⟩
  case round =>
    clear hl1' hl2 HN HN2 hup3 HL2 hnew1
    obtain ⟨p, l, k, c, d, X, Y, rfl, rfl, hlc, hkd, hl1000, hk1000, hl', hk', hlim1, hlim2, hg, hnX, hnY, hup, HLr⟩ := hrel
    have HLp := hide hl'
    have HK := hide hk'
    have HG := hide hg
    clear hl' hk' hg
    by_cases hgo : 0 < k
    · have hg0 : 0 < gk := by
        rcases Nat.eq_zero_or_pos gk with h | h
        · have := HK.out; rw [h, lim_zero] at this; simp at this; omega
        · exact h
      by_cases hw1 : l ≤ 2 ∧ k ≤ 2
      · obtain ⟨hw1, hw2⟩ := hw1
        have hp64 := small_two HLp hw1
        have hg64 := small_two HK hw2
        have HGB : Hid (Nat.gcd p gk < 18446744073709551616) := by
          show _ < _
          have := Nat.gcd_le_right p hg0
          omega
        go_wp2_with fail
        refine (join_any X c l p _ hlim1 HLp (by omega)).mono ?_
        rintro e w3 ⟨rfl, hup3⟩
        go_wp2_with fail
        refine (join_any Y d k gk _ (hlim2.up hup3) HK (by omega)).mono ?_
        rintro e w4 ⟨rfl, hup4⟩
        go_wp2_with fail
        refine (word_any p gk _ hp64 hg64).mono ?_
        rintro e w5 ⟨rfl, q, rfl⟩
        go_wp2_with fail
        refine (split_any (Nat.gcd p gk) _ HGB.out).mono ?_
        rintro e w6 ⟨A6, n6, c6, rfl, Hn6, hl6, hc6, hnew6, hup6⟩
        go_wp2
        go_ret
        have hup7 : Up w (w4.drewN q) := ((hup.trans hup3).trans hup4).drewN q
        exact ⟨A6, n6, c6, rfl, by rw [← HG.out]; exact Hn6, by rw [← HG.out]; exact hl6, hc6, hnew6.mono hup7.size, hup7.trans hup6⟩
      · have HLong : Hid LongSaid := by rcases HLr.out with h | h <;> first | exact h | exact (hw1 h).elim
        have HM := hide (Nat.mod_lt p hg0)
        have hw3 : ¬ l ≤ 2 ∨ (l ≤ 2 ∧ ¬ k ≤ 2) := by omega
        clear hw1
        rcases hw3 with hw1 | ⟨hw1, hw2⟩
        all_goals
          go_wp2_with fail
          refine (divide_any X Y c d p gk _ hlim1 hlim2 l k HLp HK hl1000 hk1000 hlc hkd hg0 (fun _ => HLong.out)).mono ?_
          rintro e w3 ⟨A3, n3, c3, A4, n4, c4, rfl, Hn3, Hn4, hl3, hl4, hc3, hc4, hnew3, hnew4, hup3⟩
          go_wp2
          go_roundg (p % gk)
          case measure => exact HM.out
          case rel =>
            refine ⟨gk, k, n4, d, c4, Y, A4, rfl, rfl, hkd, hc4, hk1000, ?_, HK.out, Hn4.out, hlim2.up hup3, hl4, ?_, hnY, hnew4.mono hup.size, hup.trans hup3, .inl HLong.out⟩
            · have h1 := lim_len_mono (Nat.le_of_lt HM.out)
              have h2 := Hn4.out
              have h3 := HK.out
              omega
            · rw [← HG.out, Nat.gcd_comm gk, Nat.gcd_comm p, Nat.gcd_rec gk p]
    · obtain rfl : k = 0 := by omega
      have hg0 : gk = 0 := by
        have := HK.out.symm; rw [lim_len_zero] at this; exact this
      have HE : Hid (p = Nat.gcd a b) := by show _ = _; rw [← HG.out, hg0, Nat.gcd_zero_right]
      clear hg0
      go_wp2
      go_ret
      exact ⟨X, l, c, rfl, by rw [← HE.out]; exact HLp, by rw [← HE.out]; exact hlim1, hlc, hnX, hup⟩

theorem gcd_top {x y : Int} (hx : x.natAbs < top300) (hy : y.natAbs < top300) : Nat.gcd x.natAbs y.natAbs < top300 := by
  rcases Nat.eq_zero_or_pos y.natAbs with h | h
  · rw [h, Nat.gcd_zero_right]; exact hx
  · exact Nat.lt_of_le_of_lt (Nat.gcd_le_right _ h) hy
set_option maxHeartbeats 4000000 in
theorem gcdI_any (B B' : Nat) (v v' : Value) (x y : Int) (w : World) (hv : IsInt B w v x) (hv' : IsInt B' w v' y) (hx : x.natAbs < top300) (hy : y.natAbs < top300) (HL : LongSaid ∨ (x.natAbs < 1000000000000000000 ∧ y.natAbs < 1000000000000000000)) :
    Calls Tryd.prog 19 #[v, v'] w fun e w' => ∃ v, e = .returned (.tuple #[v, .int .i64 0]) ∧ IsInt w.heap.size w' v (Nat.gcd x.natAbs y.natAbs : Nat) ∧ Up w w' := by
  obtain ⟨s, A, n, c, rfl, Hs, Hn, hl, hc, hN⟩ := hv
  obtain ⟨t, C, m, d, rfl, Ht, Hm, hm, hd, hN'⟩ := hv'
  obtain ⟨w0, hw0⟩ : ∃ w0, w0 = (((w.alloc (.cells #[.bool s, .slice A n c] 25)).alloc (.cells #[.bool t, .slice C m d] 25)).alloc (.cells #[.bool false, .slice none 0 0] 25)) := ⟨_, rfl⟩
  have hb1 : Bk w0 (w.heap.size) 25 #[.bool s, .slice A n c] := by
    have := ((Bk.new w 25 #[.bool s, .slice A n c]).alloc (.cells #[.bool t, .slice C m d] 25)).alloc (.cells #[.bool false, .slice none 0 0] 25)
    rw [hw0]; simpa using this
  have hb2 : Bk w0 (w.heap.size + 1) 25 #[.bool t, .slice C m d] := by
    have := (Bk.new (w.alloc (.cells #[.bool s, .slice A n c] 25)) 25 #[.bool t, .slice C m d]).alloc (.cells #[.bool false, .slice none 0 0] 25)
    rw [hw0]; simpa using this
  have hb3 : Bk w0 (w.heap.size + 1 + 1) 25 #[.bool false, .slice none 0 0] := by
    have := Bk.new ((w.alloc (.cells #[.bool s, .slice A n c] 25)).alloc (.cells #[.bool t, .slice C m d] 25)) 25 #[.bool false, .slice none 0 0]
    rw [hw0]; simpa using this
  have hup0 : Up w w0 := by rw [hw0]; exact (((Up.refl w).alloc _).alloc _).alloc _
  have hsz0 : w.heap.size + 3 ≤ w0.heap.size := by rw [hw0]; simp
  have Hw0 := hide hw0
  clear hw0
  have e1a := hb1.cell (i := 0) rfl
  have e1b := hb1.cell (i := 1) rfl
  have e2a := hb2.cell (i := 0) rfl
  have e2b := hb2.cell (i := 1) rfl
  have e3a := hb3.cell (i := 0) rfl
  have e3b := hb3.cell (i := 1) rfl
  have hn34 : n ≤ 34 := by rw [Hn.out]; exact len_of_top hx
  have hm34 : m ≤ 34 := by rw [Hm.out]; exact len_of_top hy
  have HL2 : Hid (LongSaid ∨ (n ≤ 2 ∧ m ≤ 2)) := by
    rcases HL with h | ⟨h1, h2⟩
    · exact .inl h
    · have h3 : bas 2 = 1000000000000000000 := rfl
      exact .inr ⟨by rw [Hn.out, lim_len_le]; omega, by rw [Hm.out, lim_len_le]; omega⟩
  have HGT := hide (gcd_top hx hy)
  clear HL
  go_enter Tryd.func19, Tryd.ntmps19
  go_wp2_with fail
  rw [← Hw0.out]
  refine (both_any B B' _ _ x y w0 ⟨s, A, n, c, rfl, Hs, Hn, hl.up hup0, hc, hN⟩ ⟨t, C, m, d, rfl, Ht, Hm, hm.up hup0, hd, hN'⟩ hx hy).mono ?_
  rintro e w1 ⟨rfl, hup1⟩
  have g1 := hup1.keep e1a
  have g2 := hup1.keep e1b
  have g3 := hup1.keep e2a
  have g4 := hup1.keep e2b
  go_wp2_with fail
  refine (common_any A C c d x.natAbs y.natAbs _ (hl.up (hup0.trans hup1)) (hm.up (hup0.trans hup1)) n m Hn Hm (by omega) (by omega) HL2.out).mono ?_
  rintro e w2 ⟨A1, n1, c1, rfl, Hn1, hl1, hc1, hnew1, hup2⟩
  have HGL : Hid (n1 ≤ 34) := by show _ ≤ _; rw [Hn1.out]; exact len_of_top HGT.out
  go_wp2_with fail
  refine (signedI (w.heap.size + 1 + 1 + 1) false A1 c1 n1 _ _ hl1 Hn1 (by have := HGL.out; omega) hc1 (hnew1.mono (by have := hup1.size; omega))).mono ?_
  rintro e w3 ⟨⟨v3, rfl, hv3⟩, hup3⟩
  rw [show sgn false (Nat.gcd x.natAbs y.natAbs) = ((Nat.gcd x.natAbs y.natAbs : Nat) : Int) from rfl] at hv3
  obtain ⟨s2, A2, n2, c2, rfl, Hs2, Hn2, hl2, hc2, hnew2⟩ := hv3
  have hb4 := ((hb3.up hup1).up hup2).up hup3
  have f1 := hb4.cell (i := 0) rfl
  have f2 := hb4.cell (i := 1) rfl
  have f3 := hb4.frozen 0
  have f4 := hb4.frozen 1
  have hq := hb4.two (.bool s2) (.slice A2 n2 c2)
  go_wp2
  refine bodyPost_ret (v := .tuple #[.agg #[.bool s2, .slice A2 n2 c2], .int .i64 0]) (by simp [results, Tryd.results19, go_sem, hq.1, hq.2]) rfl ⟨_, rfl, ⟨s2, A2, n2, c2, rfl, Hs2, Hn2, hl2.two hnew2 _ _, hc2, hnew2.mono (by omega)⟩, (((hup0.trans hup1).trans hup2).trans hup3).two (by omega) _ _⟩

end Go.Proofs.YtijcijdgpeolhaaDoor
