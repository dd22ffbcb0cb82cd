/- For every two raw integers the law of errors returns true. -/
import Derived.Test.YtnelnobcecnhlaaDoorM10a
import Derived.Test.YtnelnobcecnhlaaDoorM10b
namespace Go.Proofs.YtnelnobcecnhlaaDoor
open Go.RowKit

open Go.ChangeShapes Go.WideShapes Go.ChangeAt
set_option maxRecDepth 1000000 in
set_option maxHeartbeats 16000000 in
theorem errorsW (v0 v1 : Value) (w : World) (h0 : RawIn w v0) (h1 : RawIn w v1) : Calls Tryd.prog 5 #[v0, v1] w fun e w' => e = .returned (.bool true) ∧ Up w w' := by
  obtain ⟨s, A, n, c, ls, rfl, hl, hw, Hn, hn, hc⟩ := h0
  obtain ⟨t, C, m, d, ks, rfl, hm, hw', Hm, hmm, hd⟩ := h1
  by_cases hbad : ls.length ≤ 60 ∧ ks.length ≤ 60 ∧ (rawValid s ls = false ∨ rawValid t ks = false)
  · obtain ⟨hl60, hk60, hb⟩ := hbad
    rcases Bool.eq_false_or_eq_true (rawValid s ls) with hr | hr
    · exact errB s t A C n c m d ls ks w hl hw Hn hc hm hw' Hm hd hl60 hk60 hr (by rcases hb with h | h <;> first | exact h | (rw [hr] at h; cases h))
    · exact errA s t A C n c m d ls ks w hl hw Hn hc hm hw' Hm hd hl60 hk60 hr
  · have hor : 60 < ls.length ∨ (ls.length ≤ 60 ∧ 60 < ks.length) ∨ (ls.length ≤ 60 ∧ ks.length ≤ 60 ∧ Hid (rawValid s ls = true) ∧ Hid (rawValid t ks = true)) := by
      by_cases h1 : ls.length ≤ 60
      · by_cases h2 : ks.length ≤ 60
        · right; right
          refine ⟨h1, h2, ?_, ?_⟩
          · rcases Bool.eq_false_or_eq_true (rawValid s ls) with h | h
            · exact h
            · exact absurd ⟨h1, h2, .inl h⟩ hbad
          · rcases Bool.eq_false_or_eq_true (rawValid t ks) with h | h
            · exact h
            · exact absurd ⟨h1, h2, .inr h⟩ hbad
        · right; left; exact ⟨h1, by omega⟩
      · left; omega
    clear hbad
    obtain ⟨w0, hw0⟩ : ∃ w0, w0 = ((w.alloc (.cells #[.bool s, .slice A n c] 25)).alloc (.cells #[.bool t, .slice C m d] 25)) := ⟨_, rfl⟩
    have hb1 : Bk w0 (w.heap.size) 25 #[.bool s, .slice A n c] := by
      have := (Bk.new w 25 #[.bool s, .slice A n c]).alloc (.cells #[.bool t, .slice C m d] 25)
      rw [hw0]; simpa using this
    have hb2 : Bk w0 (w.heap.size + 1) 25 #[.bool t, .slice C m d] := by
      have := Bk.new (w.alloc (.cells #[.bool s, .slice A n c] 25)) 25 #[.bool t, .slice C m d]
      rw [hw0]; simpa using this
    have hup0 : Up w w0 := by rw [hw0]; exact ((Up.refl w).alloc _).alloc _
    have hsz0 : w.heap.size + 2 ≤ w0.heap.size := by rw [hw0]; simp
    have Hw0 := hide hw0
    clear hw0
    have e1a := hb1.cell (i := 0) rfl
    have e1b := hb1.cell (i := 1) rfl
    have e2a := hb2.cell (i := 0) rfl
    have e2b := hb2.cell (i := 1) rfl
    rcases hor with h1 | ⟨h1, h2⟩ | ⟨h1, h2, HVa, HVb⟩
    · have hn' : 60 < n := by rw [Hn.out]; exact h1
      clear h1
      go_enter Tryd.func5, Tryd.ntmps5
      go_wp2_with fail
      rw [← Hw0.out]
      refine (awake_any _).mono ?_
      rintro e w1 ⟨rfl, hu1⟩
      have c0 := (hu1).keep e1a
      have c1 := (hu1).keep e1b
      have c2 := (hu1).keep e2a
      have c3 := (hu1).keep e2b
      go_wp2_with fail
      refine (few_any s A c n 60 _).mono ?_
      rintro e w2 ⟨rfl, hu2⟩
      rw [show decide (((n : Nat) : Int) ≤ 60) = false from decide_eq_false (by omega)]
      clear c0 c1 c2 c3
      go_wp2_with fail
      refine (awake_any _).mono ?_
      rintro e w3 ⟨rfl, hu3⟩
      go_wp2
      go_ret
      exact ⟨rfl, ((hup0.trans hu1).trans hu2).trans hu3⟩
    · have hn' : n ≤ 60 := by rw [Hn.out]; exact h1
      have hm' : 60 < m := by rw [Hm.out]; exact h2
      clear h1 h2
      go_enter Tryd.func5, Tryd.ntmps5
      go_wp2_with fail
      rw [← Hw0.out]
      refine (awake_any _).mono ?_
      rintro e w1 ⟨rfl, hu1⟩
      have c0 := (hu1).keep e1a
      have c1 := (hu1).keep e1b
      have c2 := (hu1).keep e2a
      have c3 := (hu1).keep e2b
      go_wp2_with fail
      refine (few_any s A c n 60 _).mono ?_
      rintro e w2 ⟨rfl, hu2⟩
      rw [show decide (((n : Nat) : Int) ≤ 60) = true from decide_eq_true (by omega)]
      clear c0 c1 c2 c3
      have c0 := (hu1.trans hu2).keep e1a
      have c1 := (hu1.trans hu2).keep e1b
      have c2 := (hu1.trans hu2).keep e2a
      have c3 := (hu1.trans hu2).keep e2b
      go_wp2_with fail
      refine (few_any t C d m 60 _).mono ?_
      rintro e w3 ⟨rfl, hu3⟩
      rw [show decide (((m : Nat) : Int) ≤ 60) = false from decide_eq_false (by omega)]
      clear c0 c1 c2 c3
      go_wp2_with fail
      refine (awake_any _).mono ?_
      rintro e w4 ⟨rfl, hu4⟩
      go_wp2
      go_ret
      exact ⟨rfl, (((hup0.trans hu1).trans hu2).trans hu3).trans hu4⟩
    · have hn' : n ≤ 60 := by rw [Hn.out]; exact h1
      have hm' : m ≤ 60 := by rw [Hm.out]; exact h2
      have q0 : Rw w0 (.agg #[.bool s, .slice A n c]) s ls := ⟨⟨A, n, c, rfl, hl.up hup0, Hn, hc⟩, hw, h1⟩
      have q1 : Rw w0 (.agg #[.bool t, .slice C m d]) t ks := ⟨⟨C, m, d, rfl, hm.up hup0, Hm, hd⟩, hw', h2⟩
      clear h1 h2
      go_enter Tryd.func5, Tryd.ntmps5
      go_wp2_with fail
      rw [← Hw0.out]
      refine (awake_any _).mono ?_
      rintro e w1 ⟨rfl, hu1⟩
      have c0 := (hu1).keep e1a
      have c1 := (hu1).keep e1b
      have c2 := (hu1).keep e2a
      have c3 := (hu1).keep e2b
      go_wp2_with fail
      refine (few_any s A c n 60 _).mono ?_
      rintro e w2 ⟨rfl, hu2⟩
      rw [show decide (((n : Nat) : Int) ≤ 60) = true from decide_eq_true (by omega)]
      clear c0 c1 c2 c3
      have c0 := (hu1.trans hu2).keep e1a
      have c1 := (hu1.trans hu2).keep e1b
      have c2 := (hu1.trans hu2).keep e2a
      have c3 := (hu1.trans hu2).keep e2b
      go_wp2_with fail
      refine (few_any t C d m 60 _).mono ?_
      rintro e w3 ⟨rfl, hu3⟩
      rw [show decide (((m : Nat) : Int) ≤ 60) = true from decide_eq_true (by omega)]
      clear c0 c1 c2 c3
      have c0 := ((hu1.trans hu2).trans hu3).keep e1a
      have c1 := ((hu1.trans hu2).trans hu3).keep e1b
      have c2 := ((hu1.trans hu2).trans hu3).keep e2a
      have c3 := ((hu1.trans hu2).trans hu3).keep e2b
      go_wp2_with fail
      refine (rvalidZ _ s ls true _ HVa (q0.up ((hu1.trans hu2).trans hu3))).mono ?_
      rintro e w4 ⟨rfl, hu4⟩
      clear c0 c1 c2 c3
      have c0 := (((hu1.trans hu2).trans hu3).trans hu4).keep e1a
      have c1 := (((hu1.trans hu2).trans hu3).trans hu4).keep e1b
      have c2 := (((hu1.trans hu2).trans hu3).trans hu4).keep e2a
      have c3 := (((hu1.trans hu2).trans hu3).trans hu4).keep e2b
      go_wp2_with fail
      refine (rvalidZ _ t ks true _ HVb (q1.up (((hu1.trans hu2).trans hu3).trans hu4))).mono ?_
      rintro e w5 ⟨rfl, hu5⟩
      clear c0 c1 c2 c3
      go_wp2_with fail
      refine (awake_any _).mono ?_
      rintro e w6 ⟨rfl, hu6⟩
      go_wp2
      go_ret
      exact ⟨rfl, (((((hup0.trans hu1).trans hu2).trans hu3).trans hu4).trans hu5).trans hu6⟩
end Go.Proofs.YtnelnobcecnhlaaDoor
