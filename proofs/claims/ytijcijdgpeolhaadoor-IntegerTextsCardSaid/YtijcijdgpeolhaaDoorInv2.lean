/- Boxes of integers in a region that draws its order. -/
import Derived.Test.YtijcijdgpeolhaaDoorInv
import Derived.Test.YtijcijdgpeolhaaDoorH0
import Derived.Test.YtijcijdgpeolhaaDoorL0
namespace Go.Proofs.YtijcijdgpeolhaaDoor
open Go.RowKit

/-- The value is a valid integer. -/
def Got (w : World) (x : Value) : Prop := ∃ z, IsInt 0 w x z ∧ z.natAbs < top300
/-- x points to a box; once it is filled, it holds y. -/
def Box (B : Nat) (w : World) (x : Value) (b : Bool) (y : Value) : Prop := ∃ g s A n c, x = .pointer (some ⟨g, 0, none⟩) ∧ B ≤ g ∧ Bk w g 25 #[.bool s, .slice A n c] ∧ (b = true → y = .agg #[.bool s, .slice A n c])
theorem IsInt.boxed {B : Nat} {w : World} {v : Value} {z : Int} {g : Nat} {t : TypeId} {s : Bool} {A : Option Addr} {n c : Nat} (h : IsInt B w v z) (hb : Bk w g t #[.bool s, .slice A n c]) (x y : Value) : IsInt B ((w.setCell ⟨g, 0, none⟩ x).setCell ⟨g, 1, none⟩ y) v z := by
  obtain ⟨s', A', n', c', rfl, h1, h2, h3, h4, h5⟩ := h
  exact ⟨s', A', n', c', rfl, h1, h2, h3.boxed hb x y, h4, h5⟩
theorem Got.up {w w' : World} {x : Value} (h : Got w x) (hu : Up w w') : Got w' x := by
  obtain ⟨z, h1, h2⟩ := h
  exact ⟨z, h1.up hu, h2⟩
theorem Got.boxed {w : World} {v : Value} {g : Nat} {t : TypeId} {s : Bool} {A : Option Addr} {n c : Nat} (h : Got w v) (hb : Bk w g t #[.bool s, .slice A n c]) (x y : Value) : Got ((w.setCell ⟨g, 0, none⟩ x).setCell ⟨g, 1, none⟩ y) v := by
  obtain ⟨z, h1, h2⟩ := h
  exact ⟨z, h1.boxed hb x y, h2⟩
theorem Box.up {B : Nat} {w w' : World} {x y : Value} {b : Bool} (h : Box B w x b y) (hu : Up w w') : Box B w' x b y := by
  obtain ⟨g, s, A, n, c, h1, h2, h3, h4⟩ := h
  exact ⟨g, s, A, n, c, h1, h2, h3.up hu, h4⟩
theorem Box.new (B : Nat) (w : World) (y : Value) (hB : B ≤ w.heap.size) : Box B (w.alloc (.cells #[.bool false, .slice none 0 0] 25)) (.pointer (some ⟨w.heap.size, 0, none⟩)) false y :=
  ⟨_, _, _, _, _, rfl, hB, Bk.new w _ _, fun h => by cases h⟩
theorem Box.ne_new {B : Nat} {w : World} {x y : Value} {b : Bool} (h : Box B w x b y) : x ≠ .pointer (some ⟨w.heap.size, 0, none⟩) := by
  obtain ⟨g, s, A, n, c, rfl, h2, h3, h4⟩ := h
  have := h3.lt
  intro e
  injection e with e
  injection e with e
  injection e with e
  omega
/-- A store into another box. -/
theorem Box.far {B : Nat} {w : World} {x y : Value} {b : Bool} {g : Nat} (h : Box B w x b y) (hne : x ≠ .pointer (some ⟨g, 0, none⟩)) (u v : Value) : Box B ((w.setCell ⟨g, 0, none⟩ u).setCell ⟨g, 1, none⟩ v) x b y := by
  obtain ⟨g', s, A, n, c, rfl, h2, h3, h4⟩ := h
  exact ⟨g', s, A, n, c, rfl, h2, h3.far2 (fun e => hne (by rw [e])) u v, h4⟩
theorem Got.agg {w : World} {y : Value} (h : Got w y) : ∃ s A n c, y = .agg #[.bool s, .slice A n c] := by
  obtain ⟨z, ⟨s, A, n, c, rfl, _⟩, _⟩ := h
  exact ⟨s, A, n, c, rfl⟩
/-- The box is filled. -/
theorem Bk.fill {B : Nat} {w : World} {g : Nat} {s s' : Bool} {A A' : Option Addr} {n c n' c' : Nat} (h : Bk w g 25 #[.bool s, .slice A n c]) (hB : B ≤ g) : Box B ((w.setCell ⟨g, 0, none⟩ (.bool s')).setCell ⟨g, 1, none⟩ (.slice A' n' c')) (.pointer (some ⟨g, 0, none⟩)) true (.agg #[.bool s', .slice A' n' c']) :=
  ⟨g, s', A', n', c', rfl, hB, h.two_bk _ _, fun _ => rfl⟩
theorem Box.far' {B : Nat} {w : World} {x x' y : Value} {b : Bool} {g : Nat} (hx : x' = .pointer (some ⟨g, 0, none⟩)) (h : Box B w x b y) (hne : x ≠ x') (u v : Value) : Box B ((w.setCell ⟨g, 0, none⟩ u).setCell ⟨g, 1, none⟩ v) x b y := h.far (hx ▸ hne) u v
theorem getB {b : Bool} {l : List Bool} {i : Nat} (h : (l.toArray).getD i false = true) (e : l[i]? = some b) : b = true := by
  rw [Array.getD_eq_getD_getElem?] at h
  simp [e] at h
  exact h
theorem IsInt.agg {B : Nat} {w : World} {y : Value} {z : Int} (h : IsInt B w y z) : ∃ s A n c, y = .agg #[.bool s, .slice A n c] := by
  obtain ⟨s, A, n, c, rfl, _⟩ := h
  exact ⟨s, A, n, c, rfl⟩
theorem ownI (B : Nat) (v : Value) (x : Int) (w : World) (hv : IsInt B w v x) (hx : x.natAbs < top300) : Calls Tryd.prog 8 #[v] w (RetInt w x) := by
  obtain ⟨s, A, n, c, rfl, Hs, Hn, hl, hc, _⟩ := hv
  refine (own_any s A n c _ w hl Hn (by rw [Hn.out]; have := len_of_top hx; omega)).mono ?_
  rintro e w1 ⟨A1, n1, c1, rfl, Hn1, hl1, hc1, hnew1, hup1⟩
  exact ⟨_, rfl, ⟨s, A1, n1, c1, rfl, Hs, Hn1, hl1, hc1, hnew1⟩, hup1⟩
theorem madeR (v : Value) (w : World) (h : RawIn w v) : Calls Tryd.prog 5 #[v] w (RetSome w) := by
  obtain ⟨s, A, n, c, l, rfl, h1, h2, h3, h4, _⟩ := h
  exact made_any s A n c l w h1 h2 h3 h4
theorem RawIn.up {w w' : World} {v : Value} (h : RawIn w v) (hu : Up w w') : RawIn w' v := by
  obtain ⟨s, A, n, c, l, rfl, h1, h2, h3, h4, h5⟩ := h
  exact ⟨s, A, n, c, l, rfl, h1.up hu, h2, h3, h4, h5⟩
end Go.Proofs.YtijcijdgpeolhaaDoor
