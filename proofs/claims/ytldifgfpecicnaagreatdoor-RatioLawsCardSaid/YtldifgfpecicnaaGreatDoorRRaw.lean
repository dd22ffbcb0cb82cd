/- Raw integers of at most 60 limbs, and raw fractions. -/
import Derived.Test.YtldifgfpecicnaaGreatDoorR2
import Derived.Test.YtldifgfpecicnaaGreatDoorGV
namespace Go.Proofs.YtldifgfpecicnaaGreatDoor
open Go.RowKit

/-- A raw integer that is not valid. -/
def Bz (w : World) (v : Value) : Prop := ∃ s l, Rw w v s l ∧ Hid (rawValid s l = false)
/-- A raw integer. -/
def Az (w : World) (v : Value) : Prop := ∃ s l, Rw w v s l
section
variable {w w' : World} {v : Value}
theorem Rw.st2 {s : Bool} {l : List Nat} {g : Nat} {t : TypeId} {cs : Array Value} (h : Rw w v s l) (hb : Bk w g t cs) (hn : NoU cs) (x y : Value) : Rw ((w.setCell ⟨g, 0, none⟩ x).setCell ⟨g, 1, none⟩ y) v s l := by
  obtain ⟨⟨A, n, c, rfl, h1, h2, h3⟩, h4⟩ := h
  exact ⟨⟨A, n, c, rfl, h1.st2 hb hn x y, h2, h3⟩, h4⟩
theorem Rw.st4 {s : Bool} {l : List Nat} {g : Nat} {t : TypeId} {cs : Array Value} (h : Rw w v s l) (hb : Bk w g t cs) (hn : NoU cs) (x y a b : Value) : Rw (Go.Proofs.YtldifgfpecicnaaGreatDoor.st4 w g x y a b) v s l := by
  obtain ⟨⟨A, n, c, rfl, h1, h2, h3⟩, h4⟩ := h
  exact ⟨⟨A, n, c, rfl, h1.st4 hb hn x y a b, h2, h3⟩, h4⟩
theorem Bz.up (h : Bz w v) (hu : Up w w') : Bz w' v := by
  obtain ⟨s, l, h1, h2⟩ := h
  exact ⟨s, l, h1.up hu, h2⟩
theorem Bz.agg (h : Bz w v) : ∃ s A n c, v = .agg #[.bool s, .slice A n c] := by
  obtain ⟨s, l, h1, h2⟩ := h
  obtain ⟨A, n, c, rfl⟩ := h1.agg
  exact ⟨s, A, n, c, rfl⟩
theorem Bz.st2 {g : Nat} {t : TypeId} {cs : Array Value} (h : Bz w v) (hb : Bk w g t cs) (hn : NoU cs) (x y : Value) : Bz ((w.setCell ⟨g, 0, none⟩ x).setCell ⟨g, 1, none⟩ y) v := by
  obtain ⟨s, l, h1, h2⟩ := h
  exact ⟨s, l, h1.st2 hb hn x y, h2⟩
theorem Bz.st4 {g : Nat} {t : TypeId} {cs : Array Value} (h : Bz w v) (hb : Bk w g t cs) (hn : NoU cs) (x y a b : Value) : Bz (Go.Proofs.YtldifgfpecicnaaGreatDoor.st4 w g x y a b) v := by
  obtain ⟨s, l, h1, h2⟩ := h
  exact ⟨s, l, h1.st4 hb hn x y a b, h2⟩
theorem Az.up (h : Az w v) (hu : Up w w') : Az w' v := by
  obtain ⟨s, l, h1⟩ := h
  exact ⟨s, l, h1.up hu⟩
theorem Az.agg (h : Az w v) : ∃ s A n c, v = .agg #[.bool s, .slice A n c] := by
  obtain ⟨s, l, h1⟩ := h
  obtain ⟨A, n, c, rfl⟩ := h1.agg
  exact ⟨s, A, n, c, rfl⟩
theorem Az.st2 {g : Nat} {t : TypeId} {cs : Array Value} (h : Az w v) (hb : Bk w g t cs) (hn : NoU cs) (x y : Value) : Az ((w.setCell ⟨g, 0, none⟩ x).setCell ⟨g, 1, none⟩ y) v := by
  obtain ⟨s, l, h1⟩ := h
  exact ⟨s, l, h1.st2 hb hn x y⟩
theorem Az.st4 {g : Nat} {t : TypeId} {cs : Array Value} (h : Az w v) (hb : Bk w g t cs) (hn : NoU cs) (x y a b : Value) : Az (Go.Proofs.YtldifgfpecicnaaGreatDoor.st4 w g x y a b) v := by
  obtain ⟨s, l, h1⟩ := h
  exact ⟨s, l, h1.st4 hb hn x y a b⟩
/-- A raw integer is valid or not. -/
theorem Az.or (h : Az w v) : Bz w v ∨ ∃ z, Iz w v z := by
  obtain ⟨s, l, h1⟩ := h
  cases hr : rawValid s l with
  | false => exact .inl ⟨s, l, h1, hr⟩
  | true =>
    obtain ⟨z, hz, hi⟩ := h1.1.int hr
    exact .inr ⟨z, hi, hz⟩
theorem Iz.raw {z : Int} (h : Iz w v z) : Az w v := by
  obtain ⟨⟨s, A, n, c, rfl, Hs, Hn, hl, hc, _⟩, hz⟩ := h
  exact ⟨s, _, ⟨A, n, c, rfl, hl, Hn, hc⟩, (dig_lim _).w32, by have := len_of_top hz; omega⟩
theorem Bz.raw (h : Bz w v) : Az w v := by
  obtain ⟨s, l, h1, _⟩ := h
  exact ⟨s, l, h1⟩
theorem validB (h : Bz w v) : Calls Tryz.prog 44 #[v] w (PB w false) := by
  obtain ⟨s, l, ⟨⟨A, n, c, rfl, h1, h2, _⟩, h4, h5⟩, h6⟩ := h
  rw [← h6.out]
  exact valid_any s A c n l w h1 h4 h2 (by rw [h2.out]; omega)
theorem rvalidB (h : Bz w v) : Calls Tryz.prog 47 #[v] w (PB w false) := by
  obtain ⟨s, l, h1, h6⟩ := h
  exact rvalidZ v s l false w h6 h1
theorem signB (h : Bz w v) : Calls Tryz.prog 45 #[v] w (PN w 0) := by
  obtain ⟨s, l, ⟨⟨A, n, c, rfl, h1, h2, _⟩, h4, h5⟩, h6⟩ := h
  exact sign_bad s A c n l w h1 h4 h2 (by rw [h2.out]; omega) h6
/-- Gcd, where the first is not valid. -/
theorem gcdB {v' : Value} (h : Bz w v) (h' : Az w v') : Calls Tryz.prog 54 #[v, v'] w (PIE w 0 1) := by
  obtain ⟨s, l, h1, h6⟩ := h
  obtain ⟨t, k, h2⟩ := h'
  refine (gcdZ v v' s t l k w (.inl h6.out) h1 h2).mono ?_
  rintro e w1 ⟨u, rfl, hu, hup⟩
  exact ⟨u, rfl, Iz.of hu (by simpa using top_pos), hup⟩
end
/-- A raw fraction, of whose parts something is known. -/
def Gz (w : World) (v : Value) (P Q : World → Value → Prop) : Prop := ∃ s A n c t B m d, v = .agg #[.bool s, .slice A n c, .bool t, .slice B m d] ∧ P w (.agg #[.bool s, .slice A n c]) ∧ Q w (.agg #[.bool t, .slice B m d])
end Go.Proofs.YtldifgfpecicnaaGreatDoor
