/- The reference's Gcd, Div. -/
import Derived.Test.YtijcijdgpeolhaaDoorC4
import Derived.Deep.LoopGhost
namespace Go.Proofs.YtijcijdgpeolhaaDoor
open Go.RowKit
/-- Two integers and an error. -/
def RetInt2 (w : World) (x y err : Int) (e : Ending) (w' : World) : Prop :=
  ∃ v v', e = .returned (.tuple #[v, v', .int .i64 err]) ∧ IsInt w.heap.size w' v x ∧ IsInt w.heap.size w' v' y ∧ Up w w'
theorem sgn_tdiv {s t : Bool} {x y : Int} (Hs : Hid (s = decide (x < 0))) (Ht : Hid (t = decide (y < 0))) : sgn (s != t) (x.natAbs / y.natAbs) = x.tdiv y := by
  have h1 := Hs.out
  have h2 := Ht.out
  have e : ∀ z : Int, z = if decide (z < 0) then -(z.natAbs : Int) else z.natAbs := fun z => by by_cases h : z < 0 <;> simp [h] <;> omega
  have ex := e x
  have ey := e y
  rw [← h1] at ex
  rw [← h2] at ey
  unfold sgn
  obtain ⟨p, hp⟩ : ∃ p, p = x.natAbs := ⟨_, rfl⟩
  obtain ⟨q, hq⟩ : ∃ q, q = y.natAbs := ⟨_, rfl⟩
  rw [← hp] at ex ⊢
  rw [← hq] at ey ⊢
  rw [ex, ey]
  cases s <;> cases t <;> simp [Int.neg_tdiv, Int.tdiv_neg]
theorem sgn_tmod {s : Bool} {x y : Int} (Hs : Hid (s = decide (x < 0))) : sgn s (x.natAbs % y.natAbs) = x.tmod y := by
  have h1 := Hs.out
  have e : ∀ z : Int, z = if decide (z < 0) then -(z.natAbs : Int) else z.natAbs := fun z => by by_cases h : z < 0 <;> simp [h] <;> omega
  have ex := e x
  have ey := e y
  rw [← h1] at ex
  unfold sgn
  obtain ⟨p, hp⟩ : ∃ p, p = x.natAbs := ⟨_, rfl⟩
  obtain ⟨q, hq⟩ : ∃ q, q = y.natAbs := ⟨_, rfl⟩
  rw [← hp] at ex ⊢
  rw [← hq] at ey ⊢
  rw [ex, ey]
  cases s <;> by_cases h : y < 0 <;> (simp [h, Int.neg_tmod, Int.tmod_neg]; exact (Int.tmod_eq_emod_of_nonneg (Int.natCast_nonneg _)).symm)

end Go.Proofs.YtijcijdgpeolhaaDoor
