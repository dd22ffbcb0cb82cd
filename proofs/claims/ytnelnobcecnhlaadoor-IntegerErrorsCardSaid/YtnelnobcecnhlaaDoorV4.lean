/- The operations at arguments that are not both valid: zero, and the error ErrInvalid. -/
import Derived.Test.YtnelnobcecnhlaaDoorV3
import Derived.Test.YtnelnobcecnhlaaDoorF3
import Derived.Test.YtnelnobcecnhlaaDoorV1
namespace Go.Proofs.YtnelnobcecnhlaaDoor
open Go.RowKit

/-- Two raw integers in memory, not both valid. -/
def Bad2 (w : World) (v v' : Value) : Prop := ∃ s l t k, Raw w v s l ∧ Raw w v' t k ∧ W32 l ∧ W32 k ∧ l.length ≤ 60 ∧ k.length ≤ 60 ∧ Hid (rawValid s l = false ∨ rawValid t k = false)
def Bad1 (w : World) (v : Value) : Prop := ∃ s l, Raw w v s l ∧ W32 l ∧ l.length ≤ 60 ∧ Hid (rawValid s l = false)
theorem Bad2.up {w w' : World} {v v' : Value} (h : Bad2 w v v') (hu : Up w w') : Bad2 w' v v' := by
  obtain ⟨s, l, t, k, h1, h2, h3⟩ := h
  exact ⟨s, l, t, k, h1.up hu, h2.up hu, h3⟩
theorem Bad1.up {w w' : World} {v : Value} (h : Bad1 w v) (hu : Up w w') : Bad1 w' v := by
  obtain ⟨s, l, h1, h3⟩ := h
  exact ⟨s, l, h1.up hu, h3⟩
def RetBad (w : World) (e : Ending) (w' : World) : Prop := e = .returned (.tuple #[.agg #[.bool false, .slice none 0 0], .int .i64 1]) ∧ Up w w'
set_option maxHeartbeats 4000000 in
theorem addBad (v v' : Value) (w : World) (hb : Bad2 w v v') : Calls Tryd.prog 19 #[v, v'] w (RetBad w) := by
  obtain ⟨s, l, t, k, ⟨A, n, c, rfl, hl, Hn, hc⟩, ⟨C, m, d, rfl, hm, Hm, hd⟩, hw1, hw2, hl60, hk60, hbad⟩ := hb
  have hn : n ≤ 1000000 := by rw [Hn.out]; omega
  have hm' : m ≤ 1000000 := by rw [Hm.out]; omega
  obtain ⟨w0, hw0⟩ : ∃ w0, w0 = (((w.alloc (.cells #[.bool s, .slice A n c] 25)).alloc (.cells #[.bool t, .slice C m d] 25)).alloc (.cells #[.bool false, .slice none 0 0] 25)) := ⟨_, rfl⟩
  have hb1 : Bk w0 (w.heap.size) 25 #[.bool s, .slice A n c] := by
    have := ((Bk.new w 25 #[.bool s, .slice A n c]).alloc (.cells #[.bool t, .slice C m d] 25)).alloc (.cells #[.bool false, .slice none 0 0] 25)
    rw [hw0]; simpa using this
  have hb2 : Bk w0 (w.heap.size + 1) 25 #[.bool t, .slice C m d] := by
    have := (Bk.new (w.alloc (.cells #[.bool s, .slice A n c] 25)) 25 #[.bool t, .slice C m d]).alloc (.cells #[.bool false, .slice none 0 0] 25)
    rw [hw0]; simpa using this
  have hb3 : Bk w0 (w.heap.size + 1 + 1) 25 #[.bool false, .slice none 0 0] := by
    have := Bk.new ((w.alloc (.cells #[.bool s, .slice A n c] 25)).alloc (.cells #[.bool t, .slice C m d] 25)) 25 #[.bool false, .slice none 0 0]
    rw [hw0]; simpa using this
  have hup0 : Up w w0 := by rw [hw0]; exact (((Up.refl w).alloc _).alloc _).alloc _
  have hsz0 : w.heap.size + 3 ≤ w0.heap.size := by rw [hw0]; simp
  have Hw0 := hide hw0
  clear hw0
  have e1a := hb1.cell (i := 0) rfl
  have e1b := hb1.cell (i := 1) rfl
  have e2a := hb2.cell (i := 0) rfl
  have e2b := hb2.cell (i := 1) rfl
  have e3a := hb3.cell (i := 0) rfl
  have e3b := hb3.cell (i := 1) rfl
  go_enter Tryd.func19, Tryd.ntmps19
  go_wp2_with fail
  rw [← Hw0.out]
  refine (both_bad s t A C c d n m l k w0 (hl.up hup0) (hm.up hup0) hw1 hw2 Hn Hm hn hm' hbad).mono ?_
  rintro e w1 ⟨rfl, hup1⟩
  have hb5 := hb3.up hup1
  have f1 := hb5.cell (i := 0) rfl
  have f2 := hb5.cell (i := 1) rfl
  have f3 := hb5.frozen 0
  have f4 := hb5.frozen 1
  have q := hb5.two (.bool false) (.slice none 0 0)
  go_wp2
  exact bodyPost_ret (v := .tuple #[.agg #[.bool false, .slice none 0 0], .int .i64 1]) (by simp [results, Tryd.results19, go_sem, q.1, q.2]) rfl ⟨rfl, (hup0.trans hup1).two (by omega) _ _⟩
set_option maxHeartbeats 4000000 in
theorem subBad (v v' : Value) (w : World) (hb : Bad2 w v v') : Calls Tryd.prog 20 #[v, v'] w (RetBad w) := by
  obtain ⟨s, l, t, k, ⟨A, n, c, rfl, hl, Hn, hc⟩, ⟨C, m, d, rfl, hm, Hm, hd⟩, hw1, hw2, hl60, hk60, hbad⟩ := hb
  have hn : n ≤ 1000000 := by rw [Hn.out]; omega
  have hm' : m ≤ 1000000 := by rw [Hm.out]; omega
  obtain ⟨w0, hw0⟩ : ∃ w0, w0 = (((w.alloc (.cells #[.bool s, .slice A n c] 25)).alloc (.cells #[.bool t, .slice C m d] 25)).alloc (.cells #[.bool false, .slice none 0 0] 25)) := ⟨_, rfl⟩
  have hb1 : Bk w0 (w.heap.size) 25 #[.bool s, .slice A n c] := by
    have := ((Bk.new w 25 #[.bool s, .slice A n c]).alloc (.cells #[.bool t, .slice C m d] 25)).alloc (.cells #[.bool false, .slice none 0 0] 25)
    rw [hw0]; simpa using this
  have hb2 : Bk w0 (w.heap.size + 1) 25 #[.bool t, .slice C m d] := by
    have := (Bk.new (w.alloc (.cells #[.bool s, .slice A n c] 25)) 25 #[.bool t, .slice C m d]).alloc (.cells #[.bool false, .slice none 0 0] 25)
    rw [hw0]; simpa using this
  have hb3 : Bk w0 (w.heap.size + 1 + 1) 25 #[.bool false, .slice none 0 0] := by
    have := Bk.new ((w.alloc (.cells #[.bool s, .slice A n c] 25)).alloc (.cells #[.bool t, .slice C m d] 25)) 25 #[.bool false, .slice none 0 0]
    rw [hw0]; simpa using this
  have hup0 : Up w w0 := by rw [hw0]; exact (((Up.refl w).alloc _).alloc _).alloc _
  have hsz0 : w.heap.size + 3 ≤ w0.heap.size := by rw [hw0]; simp
  have Hw0 := hide hw0
  clear hw0
  have e1a := hb1.cell (i := 0) rfl
  have e1b := hb1.cell (i := 1) rfl
  have e2a := hb2.cell (i := 0) rfl
  have e2b := hb2.cell (i := 1) rfl
  have e3a := hb3.cell (i := 0) rfl
  have e3b := hb3.cell (i := 1) rfl
  go_enter Tryd.func20, Tryd.ntmps20
  go_wp2_with fail
  rw [← Hw0.out]
  refine (both_bad s t A C c d n m l k w0 (hl.up hup0) (hm.up hup0) hw1 hw2 Hn Hm hn hm' hbad).mono ?_
  rintro e w1 ⟨rfl, hup1⟩
  have hb5 := hb3.up hup1
  have f1 := hb5.cell (i := 0) rfl
  have f2 := hb5.cell (i := 1) rfl
  have f3 := hb5.frozen 0
  have f4 := hb5.frozen 1
  have q := hb5.two (.bool false) (.slice none 0 0)
  go_wp2
  exact bodyPost_ret (v := .tuple #[.agg #[.bool false, .slice none 0 0], .int .i64 1]) (by simp [results, Tryd.results20, go_sem, q.1, q.2]) rfl ⟨rfl, (hup0.trans hup1).two (by omega) _ _⟩
set_option maxHeartbeats 4000000 in
theorem mulBad (v v' : Value) (w : World) (hb : Bad2 w v v') : Calls Tryd.prog 21 #[v, v'] w (RetBad w) := by
  obtain ⟨s, l, t, k, ⟨A, n, c, rfl, hl, Hn, hc⟩, ⟨C, m, d, rfl, hm, Hm, hd⟩, hw1, hw2, hl60, hk60, hbad⟩ := hb
  have hn : n ≤ 1000000 := by rw [Hn.out]; omega
  have hm' : m ≤ 1000000 := by rw [Hm.out]; omega
  obtain ⟨w0, hw0⟩ : ∃ w0, w0 = (((w.alloc (.cells #[.bool s, .slice A n c] 25)).alloc (.cells #[.bool t, .slice C m d] 25)).alloc (.cells #[.bool false, .slice none 0 0] 25)) := ⟨_, rfl⟩
  have hb1 : Bk w0 (w.heap.size) 25 #[.bool s, .slice A n c] := by
    have := ((Bk.new w 25 #[.bool s, .slice A n c]).alloc (.cells #[.bool t, .slice C m d] 25)).alloc (.cells #[.bool false, .slice none 0 0] 25)
    rw [hw0]; simpa using this
  have hb2 : Bk w0 (w.heap.size + 1) 25 #[.bool t, .slice C m d] := by
    have := (Bk.new (w.alloc (.cells #[.bool s, .slice A n c] 25)) 25 #[.bool t, .slice C m d]).alloc (.cells #[.bool false, .slice none 0 0] 25)
    rw [hw0]; simpa using this
  have hb3 : Bk w0 (w.heap.size + 1 + 1) 25 #[.bool false, .slice none 0 0] := by
    have := Bk.new ((w.alloc (.cells #[.bool s, .slice A n c] 25)).alloc (.cells #[.bool t, .slice C m d] 25)) 25 #[.bool false, .slice none 0 0]
    rw [hw0]; simpa using this
  have hup0 : Up w w0 := by rw [hw0]; exact (((Up.refl w).alloc _).alloc _).alloc _
  have hsz0 : w.heap.size + 3 ≤ w0.heap.size := by rw [hw0]; simp
  have Hw0 := hide hw0
  clear hw0
  have e1a := hb1.cell (i := 0) rfl
  have e1b := hb1.cell (i := 1) rfl
  have e2a := hb2.cell (i := 0) rfl
  have e2b := hb2.cell (i := 1) rfl
  have e3a := hb3.cell (i := 0) rfl
  have e3b := hb3.cell (i := 1) rfl
  go_enter Tryd.func21, Tryd.ntmps21
  go_wp2_with fail
  rw [← Hw0.out]
  refine (both_bad s t A C c d n m l k w0 (hl.up hup0) (hm.up hup0) hw1 hw2 Hn Hm hn hm' hbad).mono ?_
  rintro e w1 ⟨rfl, hup1⟩
  have hb5 := hb3.up hup1
  have f1 := hb5.cell (i := 0) rfl
  have f2 := hb5.cell (i := 1) rfl
  have f3 := hb5.frozen 0
  have f4 := hb5.frozen 1
  have q := hb5.two (.bool false) (.slice none 0 0)
  go_wp2
  exact bodyPost_ret (v := .tuple #[.agg #[.bool false, .slice none 0 0], .int .i64 1]) (by simp [results, Tryd.results21, go_sem, q.1, q.2]) rfl ⟨rfl, (hup0.trans hup1).two (by omega) _ _⟩
set_option maxHeartbeats 4000000 in
theorem gcdBad (v v' : Value) (w : World) (hb : Bad2 w v v') : Calls Tryd.prog 23 #[v, v'] w (RetBad w) := by
  obtain ⟨s, l, t, k, ⟨A, n, c, rfl, hl, Hn, hc⟩, ⟨C, m, d, rfl, hm, Hm, hd⟩, hw1, hw2, hl60, hk60, hbad⟩ := hb
  have hn : n ≤ 1000000 := by rw [Hn.out]; omega
  have hm' : m ≤ 1000000 := by rw [Hm.out]; omega
  obtain ⟨w0, hw0⟩ : ∃ w0, w0 = (((w.alloc (.cells #[.bool s, .slice A n c] 25)).alloc (.cells #[.bool t, .slice C m d] 25)).alloc (.cells #[.bool false, .slice none 0 0] 25)) := ⟨_, rfl⟩
  have hb1 : Bk w0 (w.heap.size) 25 #[.bool s, .slice A n c] := by
    have := ((Bk.new w 25 #[.bool s, .slice A n c]).alloc (.cells #[.bool t, .slice C m d] 25)).alloc (.cells #[.bool false, .slice none 0 0] 25)
    rw [hw0]; simpa using this
  have hb2 : Bk w0 (w.heap.size + 1) 25 #[.bool t, .slice C m d] := by
    have := (Bk.new (w.alloc (.cells #[.bool s, .slice A n c] 25)) 25 #[.bool t, .slice C m d]).alloc (.cells #[.bool false, .slice none 0 0] 25)
    rw [hw0]; simpa using this
  have hb3 : Bk w0 (w.heap.size + 1 + 1) 25 #[.bool false, .slice none 0 0] := by
    have := Bk.new ((w.alloc (.cells #[.bool s, .slice A n c] 25)).alloc (.cells #[.bool t, .slice C m d] 25)) 25 #[.bool false, .slice none 0 0]
    rw [hw0]; simpa using this
  have hup0 : Up w w0 := by rw [hw0]; exact (((Up.refl w).alloc _).alloc _).alloc _
  have hsz0 : w.heap.size + 3 ≤ w0.heap.size := by rw [hw0]; simp
  have Hw0 := hide hw0
  clear hw0
  have e1a := hb1.cell (i := 0) rfl
  have e1b := hb1.cell (i := 1) rfl
  have e2a := hb2.cell (i := 0) rfl
  have e2b := hb2.cell (i := 1) rfl
  have e3a := hb3.cell (i := 0) rfl
  have e3b := hb3.cell (i := 1) rfl
  go_enter Tryd.func23, Tryd.ntmps23
  go_wp2_with fail
  rw [← Hw0.out]
  refine (both_bad s t A C c d n m l k w0 (hl.up hup0) (hm.up hup0) hw1 hw2 Hn Hm hn hm' hbad).mono ?_
  rintro e w1 ⟨rfl, hup1⟩
  have hb5 := hb3.up hup1
  have f1 := hb5.cell (i := 0) rfl
  have f2 := hb5.cell (i := 1) rfl
  have f3 := hb5.frozen 0
  have f4 := hb5.frozen 1
  have q := hb5.two (.bool false) (.slice none 0 0)
  go_wp2
  exact bodyPost_ret (v := .tuple #[.agg #[.bool false, .slice none 0 0], .int .i64 1]) (by simp [results, Tryd.results23, go_sem, q.1, q.2]) rfl ⟨rfl, (hup0.trans hup1).two (by omega) _ _⟩
set_option maxHeartbeats 4000000 in
theorem divBad (v v' : Value) (w : World) (hb : Bad2 w v v') : Calls Tryd.prog 22 #[v, v'] w fun e w' => e = .returned (.tuple #[.agg #[.bool false, .slice none 0 0], .agg #[.bool false, .slice none 0 0], .int .i64 1]) ∧ Up w w' := by
  obtain ⟨s, l, t, k, ⟨A, n, c, rfl, hl, Hn, hc⟩, ⟨C, m, d, rfl, hm, Hm, hd⟩, hw1, hw2, hl60, hk60, hbad⟩ := hb
  have hn : n ≤ 1000000 := by rw [Hn.out]; omega
  have hm' : m ≤ 1000000 := by rw [Hm.out]; omega
  obtain ⟨w0, hw0⟩ : ∃ w0, w0 = ((((w.alloc (.cells #[.bool s, .slice A n c] 25)).alloc (.cells #[.bool t, .slice C m d] 25)).alloc (.cells #[.bool false, .slice none 0 0] 25)).alloc (.cells #[.bool false, .slice none 0 0] 25)) := ⟨_, rfl⟩
  have hb1 : Bk w0 (w.heap.size) 25 #[.bool s, .slice A n c] := by
    have := (((Bk.new w 25 #[.bool s, .slice A n c]).alloc (.cells #[.bool t, .slice C m d] 25)).alloc (.cells #[.bool false, .slice none 0 0] 25)).alloc (.cells #[.bool false, .slice none 0 0] 25)
    rw [hw0]; simpa using this
  have hb2 : Bk w0 (w.heap.size + 1) 25 #[.bool t, .slice C m d] := by
    have := ((Bk.new (w.alloc (.cells #[.bool s, .slice A n c] 25)) 25 #[.bool t, .slice C m d]).alloc (.cells #[.bool false, .slice none 0 0] 25)).alloc (.cells #[.bool false, .slice none 0 0] 25)
    rw [hw0]; simpa using this
  have hb3 : Bk w0 (w.heap.size + 1 + 1) 25 #[.bool false, .slice none 0 0] := by
    have := (Bk.new ((w.alloc (.cells #[.bool s, .slice A n c] 25)).alloc (.cells #[.bool t, .slice C m d] 25)) 25 #[.bool false, .slice none 0 0]).alloc (.cells #[.bool false, .slice none 0 0] 25)
    rw [hw0]; simpa using this
  have hb4 : Bk w0 (w.heap.size + 1 + 1 + 1) 25 #[.bool false, .slice none 0 0] := by
    have := Bk.new (((w.alloc (.cells #[.bool s, .slice A n c] 25)).alloc (.cells #[.bool t, .slice C m d] 25)).alloc (.cells #[.bool false, .slice none 0 0] 25)) 25 #[.bool false, .slice none 0 0]
    rw [hw0]; simpa using this
  have hup0 : Up w w0 := by rw [hw0]; exact ((((Up.refl w).alloc _).alloc _).alloc _).alloc _
  have hsz0 : w.heap.size + 4 ≤ w0.heap.size := by rw [hw0]; simp
  have Hw0 := hide hw0
  clear hw0
  have e1a := hb1.cell (i := 0) rfl
  have e1b := hb1.cell (i := 1) rfl
  have e2a := hb2.cell (i := 0) rfl
  have e2b := hb2.cell (i := 1) rfl
  have e3a := hb3.cell (i := 0) rfl
  have e3b := hb3.cell (i := 1) rfl
  have e4a := hb4.cell (i := 0) rfl
  have e4b := hb4.cell (i := 1) rfl
  go_enter Tryd.func22, Tryd.ntmps22
  go_wp2_with fail
  rw [← Hw0.out]
  refine (both_bad s t A C c d n m l k w0 (hl.up hup0) (hm.up hup0) hw1 hw2 Hn Hm hn hm' hbad).mono ?_
  rintro e w1 ⟨rfl, hup1⟩
  have hb5 := hb3.up hup1
  have hb6 := hb4.up hup1
  have f1 := hb5.cell (i := 0) rfl
  have f2 := hb5.cell (i := 1) rfl
  have f3 := hb5.frozen 0
  have f4 := hb5.frozen 1
  have p1 := hb6.cell (i := 0) rfl
  have p2 := hb6.cell (i := 1) rfl
  have p3 := hb6.frozen 0
  have p4 := hb6.frozen 1
  have hQ1 := (hb5.two_bk (.bool false) (.slice none 0 0)).far2 (g' := w.heap.size + 1 + 1 + 1) (by omega) (.bool false) (.slice none 0 0)
  have hQ2 := (hb6.far2 (g' := w.heap.size + 1 + 1) (by omega) (.bool false) (.slice none 0 0)).two_bk (.bool false) (.slice none 0 0)
  have q1 := hQ1.cell (i := 0) rfl
  have q2 := hQ1.cell (i := 1) rfl
  have q3 := hQ2.cell (i := 0) rfl
  have q4 := hQ2.cell (i := 1) rfl
  go_wp2
  exact bodyPost_ret (v := .tuple #[.agg #[.bool false, .slice none 0 0], .agg #[.bool false, .slice none 0 0], .int .i64 1]) (by simp [results, Tryd.results22, go_sem, q1, q2, q3, q4]) rfl ⟨rfl, ((hup0.trans hup1).two (by omega) _ _).two (by omega) _ _⟩
set_option maxHeartbeats 4000000 in
theorem smallBad (v : Value) (w : World) (hb : Bad1 w v) : Calls Tryd.prog 11 #[v] w fun e w' => e = .returned (.tuple #[.int .i64 0, .int .i64 1]) ∧ Up w w' := by
  obtain ⟨s, l, ⟨A, n, c, rfl, hl, Hn, hc⟩, hw1, hl60, hbad⟩ := hb
  have hn : n ≤ 1000000 := by rw [Hn.out]; omega
  obtain ⟨w0, hw0⟩ : ∃ w0, w0 = (w.alloc (.cells #[.bool s, .slice A n c] 25)) := ⟨_, rfl⟩
  have hb1 : Bk w0 (w.heap.size) 25 #[.bool s, .slice A n c] := by
    have := Bk.new w 25 #[.bool s, .slice A n c]
    rw [hw0]; simpa using this
  have hup0 : Up w w0 := by rw [hw0]; exact (Up.refl w).alloc _
  have hsz0 : w.heap.size + 1 ≤ w0.heap.size := by rw [hw0]; simp
  have Hw0 := hide hw0
  clear hw0
  have e1a := hb1.cell (i := 0) rfl
  have e1b := hb1.cell (i := 1) rfl
  go_enter Tryd.func11, Tryd.ntmps11
  go_wp2_with fail
  rw [← Hw0.out]
  refine (valid_any s A c n l w0 (hl.up hup0) hw1 Hn hn).mono ?_
  rintro e w1 ⟨rfl, hup1⟩
  rw [hbad.out]
  go_wp2
  go_ret2
  exact ⟨rfl, hup0.trans hup1⟩
end Go.Proofs.YtnelnobcecnhlaaDoor
