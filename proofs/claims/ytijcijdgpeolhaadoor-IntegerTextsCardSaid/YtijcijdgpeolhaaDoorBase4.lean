/- Whole integers in memory. -/
import Derived.Test.YtijcijdgpeolhaaDoorBase3
namespace Go.Proofs.YtijcijdgpeolhaaDoor
open Go.RowKit

/-- The value v is the integer z: its sign, and a slice in block B or beyond that reads as the limbs of its absolute value. -/
def IsInt (B : Nat) (w : World) (v : Value) (z : Int) : Prop :=
  ∃ s A n c, v = .agg #[.bool s, .slice A n c] ∧ Hid (s = decide (z < 0)) ∧ Hid (n = (lim z.natAbs).length) ∧ Lim w A (lim z.natAbs) ∧ n ≤ c ∧ NewB B A
theorem IsInt.up {B : Nat} {w w' : World} {v : Value} {z : Int} (h : IsInt B w v z) (hu : Up w w') : IsInt B w' v z := by
  obtain ⟨s, A, n, c, rfl, hs, hn, hl, hc, hb⟩ := h
  exact ⟨s, A, n, c, rfl, hs, hn, hl.up hu, hc, hb⟩
theorem IsInt.mono {B B' : Nat} {w : World} {v : Value} {z : Int} (h : IsInt B w v z) (hb : B' ≤ B) : IsInt B' w v z := by
  obtain ⟨s, A, n, c, rfl, hs, hn, hl, hc, hn'⟩ := h
  exact ⟨s, A, n, c, rfl, hs, hn, hl, hc, hn'.mono hb⟩
/-- The zero value. -/
def zeroInt : Value := .agg #[.bool false, .slice none 0 0]
theorem IsInt.zero (B : Nat) (w : World) : IsInt B w (.agg #[.bool false, .slice none 0 0]) 0 := ⟨false, none, 0, 0, rfl, rfl, by show (0 : Nat) = _; simp [lim_zero], by simp [lim_zero, Lim.nil], Nat.le_refl _, NewB.none_ _⟩
/-- An integer that is not too large, or the error. -/
def bnd (z : Int) : Int := if z.natAbs < top300 then z else 0
def bndE (z : Int) : Int := if z.natAbs < top300 then 0 else 3
theorem bnd_ok {z : Int} (h : z.natAbs < top300) : bnd z = z ∧ bndE z = 0 := by simp [bnd, bndE, h]
theorem bnd_no {z : Int} (h : ¬ z.natAbs < top300) : bnd z = 0 ∧ bndE z = 3 := by simp [bnd, bndE, h]
theorem bnd_lt (z : Int) : (bnd z).natAbs < top300 := by
  unfold bnd
  split
  · assumption
  · have := bas_pos 33; simp [top300]; omega
/-- What a function of integers returns. -/
def RetInt (w : World) (z : Int) (e : Ending) (w' : World) : Prop := ∃ v, e = .returned v ∧ IsInt w.heap.size w' v z ∧ Up w w'
def RetIntE (w : World) (z : Int) (e : Ending) (w' : World) : Prop := ∃ v, e = .returned (.tuple #[v, .int .i64 (bndE z)]) ∧ IsInt w.heap.size w' v (bnd z) ∧ Up w w'
/-- A sign and an absolute value. -/
def sgn (s : Bool) (n : Nat) : Int := if s then -(n : Int) else n
theorem sgn_abs (s : Bool) (n : Nat) : (sgn s n).natAbs = n := by unfold sgn; split <;> omega
theorem sgn_neg {s : Bool} {n : Nat} (h : n ≠ 0) : decide (sgn s n < 0) = s := by unfold sgn; cases s <;> simp <;> omega

theorem Up.keep {w w' : World} (h : Up w w') {a : Addr} {v : Value} (e : w.cell? a = some v) : w'.cell? a = some v := (h.cell (World.block_lt_of_cell? w _ e)).trans e
/-- Block g is just these cells, none frozen. -/
def Bk (w : World) (g : Nat) (t : TypeId) (cs : Array Value) : Prop := w.heap[g]? = some (.cells cs t (0, 0))
section
variable {w w' : World} {g : Nat} {t : TypeId} {cs : Array Value}
theorem Bk.lt (h : Bk w g t cs) : g < w.heap.size := by
  rcases Nat.lt_or_ge g w.heap.size with h1 | h1
  · exact h1
  · unfold Bk at h; rw [Array.getElem?_eq_none h1] at h; cases h
theorem Bk.cell (h : Bk w g t cs) {i : Nat} {v : Value} (hi : cs[i]? = some v) : w.cell? ⟨g, i, none⟩ = some v := by
  unfold Bk at h
  simp [World.cell?, h, hi]
theorem Bk.frozen (h : Bk w g t cs) (i : Nat) : w.frozen? ⟨g, i, none⟩ = false := by
  unfold Bk at h
  simp [World.frozen?, h]
theorem Bk.new (w : World) (t : TypeId) (cs : Array Value) : Bk (w.alloc (.cells cs t)) w.heap.size t cs := heap_alloc_new w _
theorem Bk.up (h : Bk w g t cs) (hu : Up w w') : Bk w' g t cs := (hu.block g h.lt).trans h
theorem Bk.grown {row : Option Nat} (h : Bk w g t cs) (hg : w.grownBy w' row) (hne : some g ≠ row) : Bk w' g t cs := (hg.block g h.lt hne).trans h
theorem Bk.alloc (h : Bk w g t cs) (o : Obj) : Bk (w.alloc o) g t cs := h.up ((Up.refl w).alloc o)
theorem Bk.setCell (h : Bk w g t cs) (i : Nat) (u : Value) : Bk (w.setCell ⟨g, i, none⟩ u) g t (cs.setIfInBounds i u) := by
  unfold Bk at h ⊢
  simp [World.setCell, Array.getElem?_modify, h]
theorem Bk.far (h : Bk w g t cs) {p : Addr} (hp : g ≠ p.block) (u : Value) : Bk (w.setCell p u) g t cs := (Below.heap_setCell w p u g hp).trans h
theorem Bk.far2 (h : Bk w g t cs) {g' : Nat} (hp : g ≠ g') (x y : Value) : Bk ((w.setCell ⟨g', 0, none⟩ x).setCell ⟨g', 1, none⟩ y) g t cs := (h.far (p := ⟨g', 0, none⟩) hp x).far (p := ⟨g', 1, none⟩) hp y
/-- Two cells written. -/
theorem Bk.two {c0 c1 : Value} (h : Bk w g t #[c0, c1]) (x y : Value) : ((w.setCell ⟨g, 0, none⟩ x).setCell ⟨g, 1, none⟩ y).cell? ⟨g, 0, none⟩ = some x ∧ ((w.setCell ⟨g, 0, none⟩ x).setCell ⟨g, 1, none⟩ y).cell? ⟨g, 1, none⟩ = some y := by
  have h2 := (h.setCell 0 x).setCell 1 y
  exact ⟨h2.cell (i := 0) rfl, h2.cell (i := 1) rfl⟩
theorem Bk.two_bk {c0 c1 : Value} (h : Bk w g t #[c0, c1]) (x y : Value) : Bk ((w.setCell ⟨g, 0, none⟩ x).setCell ⟨g, 1, none⟩ y) g t #[x, y] := (h.setCell 0 x).setCell 1 y
theorem Up.two {a : World} (h : Up a w) (hg : a.heap.size ≤ g) (x y : Value) : Up a ((w.setCell ⟨g, 0, none⟩ x).setCell ⟨g, 1, none⟩ y) := (h.setCell (p := ⟨g, 0, none⟩) hg x).setCell (p := ⟨g, 1, none⟩) hg y
/-- A store into a block of another type does not touch numbers. -/
theorem Lim.two {A : Option Addr} {l : List Nat} (h : Lim w A l) (hn : NewB (g + 1) A) (x y : Value) : Lim ((w.setCell ⟨g, 0, none⟩ x).setCell ⟨g, 1, none⟩ y) A l := (h.far hn x).far hn y
end
end Go.Proofs.YtijcijdgpeolhaaDoor
