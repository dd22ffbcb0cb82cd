/- Arguments opened: pairs of raw integers, arrays of numbers. -/
import Derived.Test.YtldifgfpecicnaaGreatDoorGV
import Derived.Test.YtldifgfpecicnaaGreatDoorR8
import Derived.Laws.IdiomArrays
import Derived.ProofKit
import Derived.OpenShut
namespace Go.Proofs.YtldifgfpecicnaaGreatDoor
open Go.RowKit

open Go.ChangeShapes Go.WideShapes Go.ChangeAt Go.Joins Go.Deep
set_option maxRecDepth 100000 in
theorem draft_in {H : Type} {enc : TypeId × Value → H} {w : World} {held : Bool} {t : TypeId} {f0 f1 : Field} {fuel : Nat} {c0 c1 : Value} {y : DataW H × List MemPlace} (hs : Tryz.prog.underlying t = some (.struct #[f0, f1])) (hone : oneCellFields Tryz.prog #[f0, f1] = true)
    (h0 : f0.type = 4) (h1 : f1.type = 22) (h : DataW.trod enc Tryz.prog w 0 (fun _ => true) held fuel t [c0, c1] = some y) : RawIn w (.agg #[c0, c1]) := by
  obtain ⟨y0, y1, n, hx, _, hy0, hy1⟩ := trod_struct2 hs h
  obtain ⟨o0, k0⟩ := hone_of hone 0 f0 rfl
  obtain ⟨o1, k1⟩ := hone_of hone 1 f1 rfl
  have g0 : DataW.trod enc Tryz.prog w 0 (fun _ => true) held n f0.type [c0] = some y0 := by simpa [o0, k0] using hy0
  have g1 : DataW.trod enc Tryz.prog w 0 (fun _ => true) held n f1.type [c1] = some y1 := by simpa [o1, k1] using hy1
  rw [h0] at g0
  rw [h1] at g1
  obtain ⟨A, m, c, l, rfl, h2⟩ := raw_slice g1
  obtain ⟨b, e0, _⟩ := DataW.trod_bool Tryz.underlying4 g0
  simp at e0
  subst e0
  exact ⟨b, A, m, c, l, rfl, h2⟩
set_option maxRecDepth 100000 in
theorem pair_open {H : Type} {enc : TypeId × Value → H} {w : World} {held : Bool} {base : Nat} {t T : TypeId} {f0 f1 g0 g1 : Field} {v : Value} {d : DataW H} {p : List MemPlace} (hs : Tryz.prog.underlying t = some (.struct #[f0, f1])) (hT : Tryz.prog.underlying T = some (.struct #[g0, g1])) (hone : oneCellFields Tryz.prog #[g0, g1] = true)
    (hC : Tryz.prog.cellsOf t = 4) (hD : Tryz.prog.cellsOf T = 2) (h0 : f0.type = T) (h1 : f1.type = T) (o0 : f0.offset = 0) (o1 : f1.offset = 2) (k0 : g0.type = 4) (k1 : g1.type = 22) (hv : Value.okWide Tryz.prog w .any base t v) (h : DataW.Trod enc Tryz.prog w 0 (fun _ => true) held t v d p) : Gz w v RawIn RawIn := by
  obtain ⟨cs, rfl, hsz⟩ := okWide_struct hs hv
  obtain ⟨c0, c1, c2, c3, rfl⟩ := array4 (hsz.trans hC)
  obtain ⟨fuel, hf⟩ := h
  obtain ⟨y0, y1, n, hx, _, hy0, hy1⟩ := trod_struct2 hs hf
  rw [h0] at hy0
  rw [h1] at hy1
  have e0 : DataW.trod enc Tryz.prog w 0 (fun _ => true) held n T [c0, c1] = some y0 := by simpa [Value.cells, o0, hD] using hy0
  have e1 : DataW.trod enc Tryz.prog w 0 (fun _ => true) held n T [c2, c3] = some y1 := by simpa [Value.cells, o1, hD] using hy1
  have r0 := draft_in hT hone k0 k1 e0
  have r1 := draft_in hT hone k0 k1 e1
  obtain ⟨s, A, m, c, hA⟩ := r0.agg
  obtain ⟨u, B, m2, c4, hB⟩ := r1.agg
  injection hA with hA
  injection hB with hB
  simp only [Array.mk.injEq, List.cons.injEq, and_true] at hA hB
  obtain ⟨rfl, rfl⟩ := hA
  obtain ⟨rfl, rfl⟩ := hB
  exact ⟨s, A, m, c, u, B, m2, c4, rfl, r0, r1⟩
set_option maxRecDepth 100000 in
theorem arr3_open {H : Type} {enc : TypeId × Value → H} {w : World} {held : Bool} {base : Nat} {t e : TypeId} {k : IntKind} {v : Value} {d : DataW H} {p : List MemPlace} (ht : Tryz.prog.underlying t = some (.array 3 e)) (he : Tryz.prog.underlying e = some (.int k)) (hce : Tryz.prog.cellsOf e = 1) (hC : Tryz.prog.cellsOf t = 3)
    (hv : Value.okWide Tryz.prog w .any base t v) (h : DataW.Trod enc Tryz.prog w 0 (fun _ => true) held t v d p) : ∃ a b c : Int, v = .agg #[.int k a, .int k b, .int k c] ∧ (Lit.int k a).wf = true ∧ (Lit.int k b).wf = true ∧ (Lit.int k c).wf = true := by
  simp only [Value.okWide, ht] at hv
  obtain ⟨cs, rfl, hsz, _⟩ := hv
  obtain ⟨c0, c1, c2, rfl⟩ := array3 (hsz.trans hC)
  obtain ⟨fuel, hf⟩ := h
  have hf2 : DataW.trod enc Tryz.prog w 0 (fun _ => true) held fuel t [c0, c1, c2] = some (d, p) := by simpa [Value.cells] using hf
  obtain ⟨y0, y1, y2, n, hx, h0, h1, h2⟩ := trod_array3 ht hce hf2
  obtain ⟨a, e0, _, w0⟩ := DataW.trod_int he h0
  obtain ⟨b, e1, _, w1⟩ := DataW.trod_int he h1
  obtain ⟨c, e2, _, w2⟩ := DataW.trod_int he h2
  simp at e0 e1 e2
  subst e0; subst e1; subst e2
  exact ⟨a, b, c, rfl, w0, w1, w2⟩
end Go.Proofs.YtldifgfpecicnaaGreatDoor
