/- Raw integers of at most 60 limbs: what the law of errors asks of them. -/
import Derived.Test.YtnelnobcecnhlaaDoorV4
import Derived.Test.YtnelnobcecnhlaaDoorInv2
import Derived.Test.YtnelnobcecnhlaaDoorH0
import Derived.Test.YtnelnobcecnhlaaDoorL0
namespace Go.Proofs.YtnelnobcecnhlaaDoor
open Go.RowKit

/-- A raw integer of at most 60 limbs. -/
def Rw (w : World) (v : Value) (s : Bool) (l : List Nat) : Prop := Raw w v s l ∧ W32 l ∧ l.length ≤ 60
theorem Rw.up {w w' : World} {v : Value} {s : Bool} {l : List Nat} (h : Rw w v s l) (hu : Up w w') : Rw w' v s l := ⟨h.1.up hu, h.2⟩
theorem Rw.boxed {w : World} {v : Value} {s t : Bool} {l : List Nat} {g : Nat} {y : TypeId} {B : Option Addr} {n c : Nat} (h : Rw w v s l) (hb : Bk w g y #[.bool t, .slice B n c]) (x z : Value) : Rw ((w.setCell ⟨g, 0, none⟩ x).setCell ⟨g, 1, none⟩ z) v s l := by
  obtain ⟨⟨A, n, c, rfl, h1, h2, h3⟩, h4⟩ := h
  exact ⟨⟨A, n, c, rfl, h1.boxed hb x z, h2, h3⟩, h4⟩
theorem Rw.agg {w : World} {v : Value} {s : Bool} {l : List Nat} (h : Rw w v s l) : ∃ A n c, v = .agg #[.bool s, .slice A n c] := by
  obtain ⟨⟨A, n, c, rfl, _⟩, _⟩ := h
  exact ⟨A, n, c, rfl⟩
theorem ownR (v : Value) (s : Bool) (l : List Nat) (w : World) (h : Rw w v s l) : Calls Tryd.prog 9 #[v] w fun e w' => ∃ v', e = .returned v' ∧ Rw w' v' s l ∧ Up w w' := by
  obtain ⟨⟨A, n, c, rfl, h1, h2, _⟩, h4, h5⟩ := h
  refine (own_any s A n c l w h1 h2 (by rw [h2.out]; omega)).mono ?_
  rintro e w1 ⟨A1, n1, c1, rfl, Hn1, hl1, hc1, _, hup1⟩
  exact ⟨_, rfl, ⟨⟨A1, n1, c1, rfl, hl1, Hn1, hc1⟩, h4, h5⟩, hup1⟩
theorem bad2 {w : World} {v v' : Value} {s t : Bool} {l k : List Nat} (h : Rw w v s l) (h' : Rw w v' t k) (hb : Hid (rawValid s l = false ∨ rawValid t k = false)) : Bad2 w v v' := ⟨s, l, t, k, h.1, h'.1, h.2.1, h'.2.1, h.2.2, h'.2.2, hb⟩
def RetZ (w : World) (e : Ending) (w' : World) : Prop := ∃ v, e = .returned (.tuple #[v, .int .i64 1]) ∧ IsInt w.heap.size w' v 0 ∧ Up w w'
theorem addZ (v v' : Value) (s t : Bool) (l k : List Nat) (w : World) (hb : Hid (rawValid s l = false ∨ rawValid t k = false)) (h : Rw w v s l) (h' : Rw w v' t k) : Calls Tryd.prog 19 #[v, v'] w (RetZ w) := by
  refine (addBad v v' w (bad2 h h' hb)).mono ?_
  rintro e w' ⟨rfl, hup⟩
  exact ⟨_, rfl, IsInt.zero _ _, hup⟩
theorem subZ (v v' : Value) (s t : Bool) (l k : List Nat) (w : World) (hb : Hid (rawValid s l = false ∨ rawValid t k = false)) (h : Rw w v s l) (h' : Rw w v' t k) : Calls Tryd.prog 20 #[v, v'] w (RetZ w) := by
  refine (subBad v v' w (bad2 h h' hb)).mono ?_
  rintro e w' ⟨rfl, hup⟩
  exact ⟨_, rfl, IsInt.zero _ _, hup⟩
theorem mulZ (v v' : Value) (s t : Bool) (l k : List Nat) (w : World) (hb : Hid (rawValid s l = false ∨ rawValid t k = false)) (h : Rw w v s l) (h' : Rw w v' t k) : Calls Tryd.prog 21 #[v, v'] w (RetZ w) := by
  refine (mulBad v v' w (bad2 h h' hb)).mono ?_
  rintro e w' ⟨rfl, hup⟩
  exact ⟨_, rfl, IsInt.zero _ _, hup⟩
theorem gcdZ (v v' : Value) (s t : Bool) (l k : List Nat) (w : World) (hb : Hid (rawValid s l = false ∨ rawValid t k = false)) (h : Rw w v s l) (h' : Rw w v' t k) : Calls Tryd.prog 23 #[v, v'] w (RetZ w) := by
  refine (gcdBad v v' w (bad2 h h' hb)).mono ?_
  rintro e w' ⟨rfl, hup⟩
  exact ⟨_, rfl, IsInt.zero _ _, hup⟩
theorem divZ (v v' : Value) (s t : Bool) (l k : List Nat) (w : World) (hb : Hid (rawValid s l = false ∨ rawValid t k = false)) (h : Rw w v s l) (h' : Rw w v' t k) : Calls Tryd.prog 22 #[v, v'] w (RetInt2 w 0 0 1) := by
  refine (divBad v v' w (bad2 h h' hb)).mono ?_
  rintro e w' ⟨rfl, hup⟩
  exact ⟨_, _, rfl, IsInt.zero _ _, IsInt.zero _ _, hup⟩
theorem smallZ (v : Value) (s : Bool) (l : List Nat) (w : World) (hb : Hid (rawValid s l = false)) (h : Rw w v s l) : Calls Tryd.prog 11 #[v] w fun e w' => e = .returned (.tuple #[.int .i64 0, .int .i64 1]) ∧ Up w w' := smallBad v w ⟨s, l, h.1, h.2.1, h.2.2, hb⟩
theorem rvalidZ (v : Value) (s : Bool) (l : List Nat) (b : Bool) (w : World) (hb : Hid (rawValid s l = b)) (h : Rw w v s l) : Calls Tryd.prog 18 #[v] w fun e w' => e = .returned (.bool b) ∧ Up w w' := by
  obtain ⟨⟨A, n, c, rfl, h1, h2, _⟩, h4, h5⟩ := h
  rw [← hb.out]
  exact rvalid_raw s A c n l w h1 h4 h2 (by rw [h2.out]; omega)
set_option maxHeartbeats 4000000 in
theorem formatZ (v : Value) (s : Bool) (l : List Nat) (w : World) (hb : Hid (rawValid s l = false)) (h : Rw w v s l) : Calls Tryd.prog 8 #[v] w fun e w' => e = .returned (.tuple #[.string ⟨#[]⟩, .int .i64 1]) ∧ Up w w' := by
  obtain ⟨⟨A, n, c, rfl, hl, Hn, hc⟩, hw1, hl60⟩ := h
  have hn : n ≤ 1000000 := by rw [Hn.out]; omega
  obtain ⟨w0, hw0⟩ : ∃ w0, w0 = (w.alloc (.cells #[.bool s, .slice A n c] 25)) := ⟨_, rfl⟩
  have hb1 : Bk w0 (w.heap.size) 25 #[.bool s, .slice A n c] := by
    have := Bk.new w 25 #[.bool s, .slice A n c]
    rw [hw0]; simpa using this
  have hup0 : Up w w0 := by rw [hw0]; exact (Up.refl w).alloc _
  have hsz0 : w.heap.size + 1 ≤ w0.heap.size := by rw [hw0]; simp
  have Hw0 := hide hw0
  clear hw0
  have e1a := hb1.cell (i := 0) rfl
  have e1b := hb1.cell (i := 1) rfl
  go_enter Tryd.func8, Tryd.ntmps8
  go_wp2_with fail
  rw [← Hw0.out]
  refine (valid_any s A c n l w0 (hl.up hup0) hw1 Hn hn).mono ?_
  rintro e w1 ⟨rfl, hup1⟩
  rw [hb.out]
  go_wp2
  go_ret2
  exact ⟨rfl, hup0.trans hup1⟩
theorem zero_top : (0 : Int).natAbs < top300 := by have := bas_pos 33; simp [top300]; omega
end Go.Proofs.YtnelnobcecnhlaaDoor
