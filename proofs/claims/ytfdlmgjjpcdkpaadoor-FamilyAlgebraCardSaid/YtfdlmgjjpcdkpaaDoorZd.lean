/- A draft of a family that came in, opened. -/
import Derived.Test.YtfdlmgjjpcdkpaaDoorZ
import Derived.Test.YtfdlmgjjpcdkpaaDoorGg
namespace Go.Proofs.YtfdlmgjjpcdkpaaDoor
open Go.RowKit
open Go.ChangeShapes Go.WideShapes Go.ChangeAt Go.Joins Go.Deep
set_option maxRecDepth 100000 in
theorem sets_cells {H : Type} {enc : TypeId × Value → H} {w : World} {held : Bool} {fuel : Nat} {cs : List Value} {x : DataW H × List MemPlace} (h : DataW.trod enc Tryd.prog w 0 (fun _ => true) held fuel 45 cs = some x) : ∃ v, cs = [v] ∧ ∃ l, SetsIn w v l := by
  obtain ⟨d, p⟩ := x
  rcases open_ints Tryd.underlying45 Tryd.underlying27 (by kernel_rfl) h with ⟨hcs, _⟩ | ⟨a, n0, c0, zs, hcs, _, hl, hm, hz, _, hcell, hwz⟩
  · exact ⟨_, hcs, [], none, 0, 0, rfl, Or.inl rfl, (fun _ h => by cases h), rfl, Nat.le_refl _, by omega, fun _ => ⟨rfl, rfl⟩⟩
  · unfold maxLen at hm
    rw [if_pos rfl] at hz
    have hlen : ((zs.take n0).map Int.toNat).length = n0 := by rw [List.length_map, List.length_take]; omega
    refine ⟨_, hcs, (zs.take n0).map Int.toNat, some a, n0, c0, rfl, ?_, ?_, hlen.symm, hl, by omega, fun h => by cases h⟩
    · by_cases h0 : n0 = 0
      · left; subst h0; rfl
      · refine .inr ⟨a, rfl, ?_, ?_⟩
        · have h1 := hcell 0 (by omega)
          have h2 := World.block_lt_of_cell? w _ h1
          rwa [addBlock] at h2
        · intro j x hx
          have hj : j < n0 := by
            have h1 := (List.getElem?_eq_some_iff.1 hx).1
            rw [us_len, hlen] at h1
            exact h1
          have hjz : j < zs.length := by omega
          obtain ⟨s, hs, _⟩ := u16_nat (hwz (zs[j]'hjz) (List.getElem_mem hjz))
          have hg : (us ((zs.take n0).map Int.toNat))[j]? = some (.int .u16 (zs[j]'hjz)) := by
            unfold us
            rw [List.map_map, List.getElem?_map, List.getElem?_take, if_pos hj, List.getElem?_eq_getElem hjz]
            simp only [Option.map_some, Function.comp_apply, sv]
            rw [hs]
            rfl
          rw [hg] at hx
          cases hx
          rw [hcell j (by omega)]
          simp [List.getD, hjz]
    · intro z hz1
      obtain ⟨y, hy, rfl⟩ := List.mem_map.1 hz1
      obtain ⟨s, rfl, hs⟩ := u16_nat (hwz y (List.mem_of_mem_take hy))
      exact hs
set_option maxRecDepth 100000 in
theorem open_draftG {H : Type} {enc : TypeId × Value → H} {w : World} {held : Bool} {base : Nat} {T : TypeId} {f0 f1 : Field} {v : Value} {d : DataW H} {p : List MemPlace} (hs : Tryd.prog.underlying T = some (.struct #[f0, f1])) (hone : oneCellFields Tryd.prog #[f0, f1] = true) (hC : Tryd.prog.cellsOf T = 2)
    (h0 : f0.type = 5) (h1 : f1.type = 45) (hv : Value.okWide Tryd.prog w .any base T v) (h : DataW.Trod enc Tryd.prog w 0 (fun _ => true) held T v d p) : DraftIn w v := by
  obtain ⟨cs, rfl, hsz⟩ := okWide_struct hs hv
  obtain ⟨c0, c1, rfl⟩ := array2 (hsz.trans hC)
  obtain ⟨fuel, hf⟩ := h
  obtain ⟨y0, y1, n, hx, _, hy0, hy1⟩ := trod_struct2 hs hf
  obtain ⟨o0, k0⟩ := hone_of hone 0 f0 rfl
  obtain ⟨o1, k1⟩ := hone_of hone 1 f1 rfl
  have g0 : DataW.trod enc Tryd.prog w 0 (fun _ => true) held n f0.type [c0] = some y0 := by simpa [Value.cells, o0, k0] using hy0
  have g1 : DataW.trod enc Tryd.prog w 0 (fun _ => true) held n f1.type [c1] = some y1 := by simpa [Value.cells, o1, k1] using hy1
  rw [h0] at g0
  rw [h1] at g1
  obtain ⟨v1, e1, l, hl⟩ := sets_cells g1
  obtain ⟨a, e0, _, w0⟩ := DataW.trod_int Tryd.underlying5 g0
  simp at e0 e1
  subst e0; subst e1
  obtain ⟨s, rfl, hs8⟩ := u8_nat w0
  exact ⟨s, _, rfl, l, hl⟩
set_option maxRecDepth 100000 in
theorem open_draftW {H : Type} {enc : TypeId × Value → H} {w : World} {held : Bool} {base : Nat} {v : Value} {d : DataW H} {p : List MemPlace} (hv : Value.okWide Tryd.prog w .any base 47 v) (h : DataW.Trod enc Tryd.prog w 0 (fun _ => true) held 47 v d p) : DraftIn w v :=
  open_draftG Tryd.underlying47 (by kernel_rfl) (by kernel_rfl) rfl rfl hv h
end Go.Proofs.YtfdlmgjjpcdkpaaDoor
