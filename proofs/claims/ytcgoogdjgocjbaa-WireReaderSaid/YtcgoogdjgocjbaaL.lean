/- What every law's row says by itself; lists that came in. -/
import Derived.Test.YtcgoogdjgocjbaaF
import Derived.ProofKit
import Derived.OpenShut
import Derived.ChangeOld
import Derived.Below
import Derived.Lib.SmallJoins
namespace Go.Proofs.Ytcgoogdjgocjbaa
open Go.RowKit

open Go.ChangeShapes Go.WideShapes Go.ChangeAt Go.Joins Go.Deep
theorem ownK : ownKnob Try.prog.godebug = none := by kernel_rfl
theorem laidOut : laidOutB Try.prog = true := by kernel_rfl
theorem i64_wf {n : Int} (h : (Lit.int .i64 n).wf = true) : -9223372036854775808 ≤ n ∧ n ≤ 9223372036854775807 := by
  have h1 : IntKind.i64.min = -9223372036854775808 := rfl
  have h2 : IntKind.i64.max = 9223372036854775807 := rfl
  simp [Lit.wf, h1, h2] at h
  omega
theorem u64_wf {n : Int} (h : (Lit.int .u64 n).wf = true) : 0 ≤ n ∧ n ≤ 18446744073709551615 := by
  have h1 : IntKind.u64.min = 0 := rfl
  have h2 : IntKind.u64.max = 18446744073709551615 := rfl
  simp [Lit.wf, h1, h2] at h
  omega
/-- A list of integers that came in. -/
def IntsIn (w : World) (v : Value) (l : List Int) : Prop := ∃ A n c, v = .slice A n c ∧ Vals w A (is l) ∧ (∀ z ∈ l, -9223372036854775808 ≤ z ∧ z ≤ 9223372036854775807) ∧ n = l.length ∧ n ≤ c ∧ n ≤ 9223372036854775807 ∧ (A = none → n = 0 ∧ c = 0)
theorem open_intsW {H : Type} {enc : TypeId × Value → H} {w : World} {held : Bool} {base : Nat} {v : Value} {d : DataW H} {p : List MemPlace} (hv : Value.okWide Try.prog w .any base 41 v) (h : DataW.Trod enc Try.prog w 0 (fun _ => true) held 41 v d p) : ∃ l, IntsIn w v l := by
  obtain ⟨a0, n0, c0, rfl⟩ := okWide_slice Try.underlying41 hv
  obtain ⟨f, h⟩ := h
  rcases open_ints Try.underlying41 Try.underlying3 (by kernel_rfl) h with ⟨hcs, _⟩ | ⟨a, len, cap, zs, hcs, _, hl, hm, hz, _, hcell, hwz⟩
  · simp [Value.cells] at hcs
    obtain ⟨rfl, rfl, rfl⟩ := hcs
    exact ⟨[], none, 0, 0, rfl, Or.inl rfl, (fun _ h => by cases h), rfl, Nat.le_refl _, by omega, fun _ => ⟨rfl, rfl⟩⟩
  · simp [Value.cells] at hcs
    obtain ⟨rfl, rfl, rfl⟩ := hcs
    unfold maxLen at hm
    rw [if_pos rfl] at hz
    refine ⟨zs.take n0, some a, n0, c0, rfl, ?_, ?_, by rw [List.length_take]; omega, hl, by omega, fun h => by cases h⟩
    · by_cases h0 : n0 = 0
      · left; subst h0; rfl
      · refine .inr ⟨a, rfl, ?_, ?_⟩
        · have h1 := hcell 0 (by omega)
          have h2 := World.block_lt_of_cell? w _ h1
          rwa [addBlock] at h2
        · intro j x hx
          have hj : j < n0 := by
            have h1 := (List.getElem?_eq_some_iff.1 hx).1
            rw [is_len, List.length_take] at h1
            omega
          rw [hcell j (by omega), ← hx, is_get (by rw [List.length_take]; omega)]
          simp [List.getD, hj]
    · intro z hz1
      exact i64_wf (hwz z (List.mem_of_mem_take hz1))
/-- A list of strings that came in. -/
def StrsIn (w : World) (v : Value) (l : List ByteArray) : Prop := ∃ A n c, v = .slice A n c ∧ Vals w A (ss l) ∧ (∀ s ∈ l, s.size ≤ maxLen) ∧ n = l.length ∧ n ≤ c ∧ n ≤ 9223372036854775807 ∧ (A = none → n = 0 ∧ c = 0)
theorem open_strsW {H : Type} {enc : TypeId × Value → H} {w : World} {held : Bool} {base : Nat} {v : Value} {d : DataW H} {p : List MemPlace} (hv : Value.okWide Try.prog w .any base 30 v) (h : DataW.Trod enc Try.prog w 0 (fun _ => true) held 30 v d p) : ∃ l, StrsIn w v l := by
  obtain ⟨a0, n0, c0, rfl⟩ := okWide_slice Try.underlying30 hv
  obtain ⟨f, h⟩ := h
  rcases open_strings Try.underlying30 Try.underlying9 (by kernel_rfl) h with ⟨hcs, _⟩ | ⟨a, len, cap, zs, hcs, _, hl, hm, hz, _, hcell, hwz⟩
  · simp [Value.cells] at hcs
    obtain ⟨rfl, rfl, rfl⟩ := hcs
    exact ⟨[], none, 0, 0, rfl, Or.inl rfl, (fun _ h => by cases h), rfl, Nat.le_refl _, by omega, fun _ => ⟨rfl, rfl⟩⟩
  · simp [Value.cells] at hcs
    obtain ⟨rfl, rfl, rfl⟩ := hcs
    unfold maxLen at hm
    rw [if_pos rfl] at hz
    refine ⟨zs.take n0, some a, n0, c0, rfl, ?_, ?_, by rw [List.length_take]; omega, hl, by omega, fun h => by cases h⟩
    · by_cases h0 : n0 = 0
      · left; subst h0; rfl
      · refine .inr ⟨a, rfl, ?_, ?_⟩
        · have h1 := hcell 0 (by omega)
          have h2 := World.block_lt_of_cell? w _ h1
          rwa [addBlock] at h2
        · intro j x hx
          have hj : j < n0 := by
            have h1 := (List.getElem?_eq_some_iff.1 hx).1
            rw [ss_len, List.length_take] at h1
            omega
          rw [hcell j (by omega), ← hx, ss_get (by rw [List.length_take]; omega)]
          simp [List.getD, hj]
          rfl
    · intro z hz1
      exact id (hwz z (List.mem_of_mem_take hz1))
end Go.Proofs.Ytcgoogdjgocjbaa
