/- Boxes of fractions in a region that draws its order. -/
import Derived.Test.YtldifgfpecicnaaGreatDoorR6
import Derived.Test.YtldifgfpecicnaaGreatDoorGV
namespace Go.Proofs.YtldifgfpecicnaaGreatDoor
open Go.RowKit

/-- x points to a box of a fraction; once it is filled, it holds y. -/
def B4 (B : Nat) (w : World) (x : Value) (b : Bool) (y : Value) : Prop := ∃ g s A n c t C m d, x = .pointer (some ⟨g, 0, none⟩) ∧ B ≤ g ∧ Bk w g 29 #[.bool s, .slice A n c, .bool t, .slice C m d] ∧ (b = true → y = .agg #[.bool s, .slice A n c, .bool t, .slice C m d])
section
variable {B g : Nat} {w w' : World} {x y : Value} {b : Bool}
theorem B4.up (h : B4 B w x b y) (hu : Up w w') : B4 B w' x b y := by
  obtain ⟨g, s, A, n, c, t, C, m, d, h1, h2, h3, h4⟩ := h
  exact ⟨g, s, A, n, c, t, C, m, d, h1, h2, h3.up hu, h4⟩
theorem B4.new (B : Nat) (w : World) (y : Value) (hB : B ≤ w.heap.size) : B4 B (w.alloc (.cells #[.bool false, .slice none 0 0, .bool false, .slice none 0 0] 29)) (.pointer (some ⟨w.heap.size, 0, none⟩)) false y :=
  ⟨_, _, _, _, _, _, _, _, _, rfl, hB, Bk.new w _ _, fun h => by cases h⟩
theorem B4.ne_new (h : B4 B w x b y) : x ≠ .pointer (some ⟨w.heap.size, 0, none⟩) := by
  obtain ⟨g, s, A, n, c, t, C, m, d, rfl, h2, h3, h4⟩ := h
  have := h3.lt
  intro e
  injection e with e
  injection e with e
  injection e with e
  omega
theorem B4.far (h : B4 B w x b y) (hne : x ≠ .pointer (some ⟨g, 0, none⟩)) (p q r u : Value) : B4 B (st4 w g p q r u) x b y := by
  obtain ⟨g', s, A, n, c, t, C, m, d, rfl, h2, h3, h4⟩ := h
  exact ⟨g', s, A, n, c, t, C, m, d, rfl, h2, h3.far4 (fun e => hne (by rw [e])) p q r u, h4⟩
theorem Bk.fill4 {s t s' t' : Bool} {A C A' C' : Option Addr} {n c m d n' c' m' d' : Nat} (h : Bk w g 29 #[.bool s, .slice A n c, .bool t, .slice C m d]) (hB : B ≤ g) :
    B4 B (st4 w g (.bool s') (.slice A' n' c') (.bool t') (.slice C' m' d')) (.pointer (some ⟨g, 0, none⟩)) true (.agg #[.bool s', .slice A' n' c', .bool t', .slice C' m' d']) :=
  ⟨g, s', A', n', c', t', C', m', d', rfl, hB, h.four _ _ _ _, fun _ => rfl⟩
theorem B4.unfilled (h : B4 B w x b y) (hb : b = false) (y' : Value) : B4 B w x b y' := by
  obtain ⟨g, s, A, n, c, t, C, m, d, h1, h2, h3, h4⟩ := h
  exact ⟨g, s, A, n, c, t, C, m, d, h1, h2, h3, fun h => by rw [hb] at h; cases h⟩
/-- Some integer, some fraction. -/
def Gi (w : World) (v : Value) : Prop := ∃ z, Iz w v z
def Gr (w : World) (v : Value) : Prop := ∃ r, Rz w v r
theorem Gi.up (h : Gi w x) (hu : Up w w') : Gi w' x := by obtain ⟨z, h⟩ := h; exact ⟨z, h.up hu⟩
theorem Gr.up (h : Gr w x) (hu : Up w w') : Gr w' x := by obtain ⟨z, h⟩ := h; exact ⟨z, h.up hu⟩
theorem Gr.agg4 (h : Gr w x) : ∃ s A n c t C m d, x = .agg #[.bool s, .slice A n c, .bool t, .slice C m d] := by obtain ⟨z, h⟩ := h; exact h.agg4
theorem Fz.agg4 {p q : Int} (h : Fz w x p q) : ∃ s A n c t C m d, x = .agg #[.bool s, .slice A n c, .bool t, .slice C m d] := by
  obtain ⟨s, A, n, c, t, B, m, d, rfl, _⟩ := h
  exact ⟨s, A, n, c, t, B, m, d, rfl⟩
theorem Gi.agg (h : Gi w x) : ∃ s A n c, x = .agg #[.bool s, .slice A n c] := by obtain ⟨z, h⟩ := h; exact h.agg
theorem Gi.st2 {t : TypeId} {cs : Array Value} (h : Gi w x) (hb : Bk w g t cs) (hn : NoU cs) (p q : Value) : Gi ((w.setCell ⟨g, 0, none⟩ p).setCell ⟨g, 1, none⟩ q) x := by obtain ⟨z, h⟩ := h; exact ⟨z, h.st2 hb hn p q⟩
theorem Gi.st4 {t : TypeId} {cs : Array Value} (h : Gi w x) (hb : Bk w g t cs) (hn : NoU cs) (p q r u : Value) : Gi (Go.Proofs.YtldifgfpecicnaaGreatDoor.st4 w g p q r u) x := by obtain ⟨z, h⟩ := h; exact ⟨z, h.st4 hb hn p q r u⟩
theorem Gr.st2 {t : TypeId} {cs : Array Value} (h : Gr w x) (hb : Bk w g t cs) (hn : NoU cs) (p q : Value) : Gr ((w.setCell ⟨g, 0, none⟩ p).setCell ⟨g, 1, none⟩ q) x := by obtain ⟨z, h⟩ := h; exact ⟨z, h.st2 hb hn p q⟩
theorem Gr.st4 {t : TypeId} {cs : Array Value} (h : Gr w x) (hb : Bk w g t cs) (hn : NoU cs) (p q r u : Value) : Gr (Go.Proofs.YtldifgfpecicnaaGreatDoor.st4 w g p q r u) x := by obtain ⟨z, h⟩ := h; exact ⟨z, h.st4 hb hn p q r u⟩
theorem RawIn.st2 {t : TypeId} {cs : Array Value} (h : RawIn w x) (hb : Bk w g t cs) (hn : NoU cs) (p q : Value) : RawIn ((w.setCell ⟨g, 0, none⟩ p).setCell ⟨g, 1, none⟩ q) x := by
  obtain ⟨s, A, n, c, l, rfl, h1, h2⟩ := h
  exact ⟨s, A, n, c, l, rfl, h1.st2 hb hn p q, h2⟩
theorem RawIn.st4 {t : TypeId} {cs : Array Value} (h : RawIn w x) (hb : Bk w g t cs) (hn : NoU cs) (p q r u : Value) : RawIn (Go.Proofs.YtldifgfpecicnaaGreatDoor.st4 w g p q r u) x := by
  obtain ⟨s, A, n, c, l, rfl, h1, h2⟩ := h
  exact ⟨s, A, n, c, l, rfl, h1.st4 hb hn p q r u, h2⟩
theorem RawIn.agg (h : RawIn w x) : ∃ s A n c, x = .agg #[.bool s, .slice A n c] := by
  obtain ⟨s, A, n, c, l, rfl, _⟩ := h
  exact ⟨s, A, n, c, rfl⟩
def PGi (w : World) (e : Ending) (w' : World) : Prop := ∃ v, e = .returned v ∧ Gi w' v ∧ Up w w'
def PGr (w : World) (e : Ending) (w' : World) : Prop := ∃ v, e = .returned v ∧ Gr w' v ∧ Up w w'
theorem madeG (h : RawIn w x) : Calls Tryz.prog 57 #[x] w (PGi w) := by
  refine (madeR x w h).mono ?_
  rintro e w1 ⟨v, z, rfl, hv, hz, hup⟩
  exact ⟨v, rfl, ⟨z, Iz.of hv hz⟩, hup⟩
theorem rmakeG {z : Int} (h : Gi w x) (h' : Iz w y z) (hz : z ≠ 0) : Calls Tryz.prog 15 #[x, y] w fun e w' => ∃ u, e = .returned (.tuple #[u, .int .i64 0]) ∧ Gr w' u ∧ Up w w' := by
  obtain ⟨k, h⟩ := h
  refine (rmakeQ h h').mono ?_
  unfold makeR
  rw [if_neg hz]
  rintro e w1 ⟨v, rfl, hv, hup⟩
  exact ⟨v, rfl, ⟨_, hv⟩, hup⟩
end
end Go.Proofs.YtldifgfpecicnaaGreatDoor
