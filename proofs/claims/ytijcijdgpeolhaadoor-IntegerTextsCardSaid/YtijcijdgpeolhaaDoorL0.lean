/- Raw integers that came in; what every law's row says by itself. -/
import Derived.Test.YtijcijdgpeolhaaDoorBase4
import Derived.ProofKit
import Derived.OpenShut
import Derived.ChangeOld
import Derived.Below
import Derived.Lib.SmallJoins
namespace Go.Proofs.YtijcijdgpeolhaaDoor
open Go.RowKit

open Go.ChangeShapes Go.WideShapes Go.ChangeAt Go.Joins Go.Deep
theorem ownK : ownKnob Tryd.prog.godebug = none := by kernel_rfl
theorem laidOut : laidOutB Tryd.prog = true := by kernel_rfl
theorem u32_wf {n : Int} (h : (Lit.int .u32 n).wf = true) : 0 ≤ n ∧ n < 4294967296 := by
  have h1 : IntKind.u32.min = 0 := rfl
  have h2 : IntKind.u32.max = 4294967295 := rfl
  simp [Lit.wf, h1, h2] at h
  omega
/-- What came in: a sign, and any 32-bit numbers. -/
def RawIn (w : World) (v : Value) : Prop := ∃ s A n c l, v = .agg #[.bool s, .slice A n c] ∧ Lim w A l ∧ W32 l ∧ Hid (n = l.length) ∧ n ≤ 9223372036854775807 ∧ n ≤ c
set_option maxRecDepth 100000 in
theorem raw_slice {H : Type} {enc : TypeId × Value → H} {w : World} {held : Bool} {fuel : Nat} {v : Value} {x : DataW H × List MemPlace} (h : DataW.trod enc Tryd.prog w 0 (fun _ => true) held fuel 22 [v] = some x) :
    ∃ A n c l, v = .slice A n c ∧ Lim w A l ∧ W32 l ∧ Hid (n = l.length) ∧ n ≤ 9223372036854775807 ∧ n ≤ c := by
  rcases open_ints Tryd.underlying22 Tryd.underlying41 (by kernel_rfl) h with ⟨hcs, _⟩ | ⟨a, len, cap, zs, hcs, _, hl, hm, hz, _, hcell, hwz⟩
  · simp at hcs
    subst hcs
    exact ⟨none, 0, 0, [], rfl, Lim.nil _ _, (fun _ h => by cases h), rfl, by omega, Nat.le_refl _⟩
  · simp at hcs
    subst hcs
    simp at hz
    unfold maxLen at hm
    have hb : ∀ i, i < zs.length → 0 ≤ zs.getD i 0 ∧ zs.getD i 0 < 4294967296 := fun i hi => by
      have h1 := u32_wf (hwz (zs.getD i 0) (by rw [List.getD, List.getElem?_eq_getElem hi]; exact List.getElem_mem hi))
      exact h1
    refine ⟨some a, len, cap, (zs.take len).map Int.toNat, rfl, ?_, ?_, ?_, by omega, hl⟩
    · by_cases h0 : len = 0
      · subst h0; simp [Lim.nil]
      · refine .inr ⟨a, rfl, ?_, ?_⟩
        · have h1 := hcell 0 (by omega)
          have h2 := World.block_lt_of_cell? w _ h1
          rwa [addBlock] at h2
        · intro j x hx
          have hj : j < len := by
            have h1 := List.getElem?_eq_some_iff.1 hx
            obtain ⟨h1, _⟩ := h1
            simp at h1
            omega
          have hjz : j < zs.length := by omega
          rw [hcell j hjz]
          have h2 := hb j hjz
          rw [List.getElem?_map, List.getElem?_take, if_pos hj, List.getElem?_eq_getElem hjz] at hx
          simp at hx
          subst hx
          have e : zs.getD j 0 = zs[j] := by simp [List.getD, hjz]
          rw [e] at h2 ⊢
          rw [Int.toNat_of_nonneg h2.1]
    · intro x hx
      simp only [List.mem_map] at hx
      obtain ⟨z, hz1, rfl⟩ := hx
      have h1 := u32_wf (hwz z (List.mem_of_mem_take hz1))
      omega
    · show len = _
      simp; omega
set_option maxRecDepth 100000 in
theorem raw_open {H : Type} {enc : TypeId × Value → H} {w : World} {held : Bool} {base : Nat} {t : TypeId} {f0 f1 : Field} {v : Value} {d : DataW H} {p : List MemPlace} (hs : Tryd.prog.underlying t = some (.struct #[f0, f1])) (hone : oneCellFields Tryd.prog #[f0, f1] = true) (hC : Tryd.prog.cellsOf t = 2)
    (h0 : f0.type = 4) (h1 : f1.type = 22) (hv : Value.okWide Tryd.prog w .any base t v) (h : DataW.Trod enc Tryd.prog w 0 (fun _ => true) held t v d p) : RawIn w v := by
  obtain ⟨c0, c1, y0, y1, m, rfl, _, _, hy0, hy1⟩ := open_agg2 hs hone hC hv h
  rw [h0] at hy0
  rw [h1] at hy1
  obtain ⟨A, n, c, l, rfl, h2⟩ := raw_slice hy1
  obtain ⟨b, e0, _⟩ := DataW.trod_bool Tryd.underlying4 hy0
  simp at e0
  subst e0
  exact ⟨b, A, n, c, l, rfl, h2⟩
end Go.Proofs.YtijcijdgpeolhaaDoor
