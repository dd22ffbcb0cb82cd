/- Blocks that are known whole: arrays and structs. -/
import Derived.Test.YtdnhecgjfanakaaDoorD
import Derived.Laws.CopyRow
namespace Go.Proofs.YtdnhecgjfanakaaDoor
open Go.RowKit

theorem Up.keep {w w' : World} (h : Up w w') {a : Addr} {v : Value} (e : w.cell? a = some v) : w'.cell? a = some v := (h.cell (World.block_lt_of_cell? w _ e)).trans e
/-- Block g is just these cells, none frozen. -/
def Bk (w : World) (g : Nat) (t : TypeId) (cs : Array Value) : Prop := w.heap[g]? = some (.cells cs t (0, 0))
section
variable {w w' : World} {g : Nat} {t : TypeId} {cs : Array Value}
theorem Bk.lt (h : Bk w g t cs) : g < w.heap.size := by
  rcases Nat.lt_or_ge g w.heap.size with h1 | h1
  · exact h1
  · unfold Bk at h; rw [Array.getElem?_eq_none h1] at h; cases h
theorem Bk.cell (h : Bk w g t cs) {i : Nat} {v : Value} (hi : cs[i]? = some v) : w.cell? ⟨g, i, none⟩ = some v := by
  unfold Bk at h
  simp [World.cell?, h, hi]
theorem Bk.frozen (h : Bk w g t cs) (i : Nat) : w.frozen? ⟨g, i, none⟩ = false := by
  unfold Bk at h
  simp [World.frozen?, h]
theorem Bk.new (w : World) (t : TypeId) (cs : Array Value) : Bk (w.alloc (.cells cs t)) w.heap.size t cs := heap_alloc_new w _
theorem Bk.up (h : Bk w g t cs) (hu : Up w w') : Bk w' g t cs := (hu.block g h.lt).trans h
theorem Bk.grown {row : Option Nat} (h : Bk w g t cs) (hg : w.grownBy w' row) (hne : some g ≠ row) : Bk w' g t cs := (hg.block g h.lt hne).trans h
theorem Bk.alloc (h : Bk w g t cs) (o : Obj) : Bk (w.alloc o) g t cs := h.up ((Up.refl w).alloc o)
theorem Bk.setCell (h : Bk w g t cs) (i : Nat) (u : Value) : Bk (w.setCell ⟨g, i, none⟩ u) g t (cs.setIfInBounds i u) := by
  unfold Bk at h ⊢
  simp [World.setCell, Array.getElem?_modify, h]
theorem Bk.far (h : Bk w g t cs) {p : Addr} (hp : g ≠ p.block) (u : Value) : Bk (w.setCell p u) g t cs := (Below.heap_setCell w p u g hp).trans h
theorem Bk.far2 (h : Bk w g t cs) {g' : Nat} (hp : g ≠ g') (x y : Value) : Bk ((w.setCell ⟨g', 0, none⟩ x).setCell ⟨g', 1, none⟩ y) g t cs := (h.far (p := ⟨g', 0, none⟩) hp x).far (p := ⟨g', 1, none⟩) hp y
end
theorem Bk.grownO {w w' : World} {g g' : Nat} {t : TypeId} {cs : Array Value} (h : Bk w g t cs) (hg : w.grownBy w' (some g')) (hne : g ≠ g') : Bk w' g t cs := h.grown hg (fun e => hne (Option.some.inj e))
theorem Bk.new1 (w : World) (a : Obj) (t : TypeId) (cs : Array Value) : Bk ((w.alloc a).alloc (.cells cs t)) (w.heap.size + 1) t cs := by
  have := Bk.new (w.alloc a) t cs
  simpa using this
theorem Bk.new2 (w : World) (a b : Obj) (t : TypeId) (cs : Array Value) : Bk (((w.alloc a).alloc b).alloc (.cells cs t)) (w.heap.size + 1 + 1) t cs := by
  have := Bk.new ((w.alloc a).alloc b) t cs
  simpa using this
theorem Bk.drewN {w : World} {g : Nat} {t : TypeId} {cs : Array Value} (h : Bk w g t cs) (n : Nat) : Bk (w.drewN n) g t cs := h
theorem Bk.drew {w : World} {g : Nat} {t : TypeId} {cs : Array Value} (h : Bk w g t cs) : Bk w.drew g t cs := h
theorem Up.setRow {a w : World} (h : Up a w) {g : Nat} (hg : a.heap.size ≤ g) (cs : Array Value) : Up a (w.setRow g cs) :=
  ⟨h.os, h.tape, h.output, by rw [setRow_size]; exact h.size, fun i hi => (setRow_other w g i cs (fun e => by subst e; exact absurd hi (Nat.not_lt.2 hg))).trans (h.block i hi)⟩
/-- Numbers as cells of type uint32. -/
def u32s (l : List Nat) : Array Value := (l.map fun (x : Nat) => Value.int .u32 (x : Int)).toArray
theorem u32s_size (l : List Nat) : (u32s l).size = l.length := by simp [u32s]
theorem u32s_get {l : List Nat} {i : Nat} (h : i < l.length) : (u32s l)[i]? = some (.int .u32 ((l.getD i 0 : Nat) : Int)) := by simp [u32s, List.getD, h]
theorem u32s_set (l : List Nat) (i x : Nat) : (u32s l).setIfInBounds i (.int .u32 (x : Int)) = u32s (l.set i x) := by simp [u32s, List.map_set]
theorem u32s_one (l : List Nat) : (u32s l).all (·.oneCell') = true := by
  simp [u32s, List.all_eq_true, Function.comp_def]
  intro x _
  rfl
def u8a (l : List Nat) : Array Value := (u8s l).toArray
theorem u8a_size (l : List Nat) : (u8a l).size = l.length := by simp [u8a, u8s_len]
theorem u8a_get {l : List Nat} {i : Nat} (h : i < l.length) : (u8a l)[i]? = some (.int .u8 ((l.getD i 0 : Nat) : Int)) := by simp [u8a, u8s, List.getD, h]
theorem u8a_set (l : List Nat) (i x : Nat) : (u8a l).setIfInBounds i (.int .u8 (x : Int)) = u8a (l.set i x) := by simp [u8a, u8s, List.map_set]
theorem u8a_one (l : List Nat) : (u8a l).all (·.oneCell') = true := by
  simp [u8a, u8s, List.all_eq_true, Function.comp_def]
  intro x _
  rfl
theorem Tryd.info51 : (Tryd.prog.info? 51).map (·.size) = some 64 := by kernel_rfl
theorem Tryd.info41 : (Tryd.prog.info? 41).map (·.size) = some 64 := by kernel_rfl
theorem Tryd.info40 : (Tryd.prog.info? 40).map (·.size) = some 8 := by kernel_rfl
theorem Tryd.info46 : (Tryd.prog.info? 46).map (·.size) = some 32 := by kernel_rfl
theorem sizeU8 : (Tryd.prog.info? 5).map (·.size) = some 1 := by kernel_rfl
theorem ix_arr64 (l : List Nat) (i b : Nat) (hl : l.length = 64) (hi : i < 64) (hb : Hid (b = l.getD i 0)) (w : World) : (Instr.index 41 (.agg (u8a l)) (.int .i64 (i : Int))).run Tryd.prog w = .ok (.int .u8 (b : Int)) w := by
  rw [hb.out]
  have h1 := u8a_get (l := l) (i := i) (by omega)
  have h2 := sizeU8
  cases hq : Tryd.prog.info? 5 with
  | none => simp [hq] at h2
  | some j =>
    have hj : j.size = 1 := by simpa [hq] using h2
    simp [Instr.index, run_underlying Tryd.underlying41, sizeOf, typeInfo, hq, hj, h1, part, go_sem]
    intro h4
    omega
theorem ix_arr32 (l : List Nat) (i b : Nat) (hl : l.length = 32) (hi : i < 32) (hb : Hid (b = l.getD i 0)) (w : World) : (Instr.index 46 (.agg (u8a l)) (.int .i64 (i : Int))).run Tryd.prog w = .ok (.int .u8 (b : Int)) w := by
  rw [hb.out]
  have h1 := u8a_get (l := l) (i := i) (by omega)
  have h2 := sizeU8
  cases hq : Tryd.prog.info? 5 with
  | none => simp [hq] at h2
  | some j =>
    have hj : j.size = 1 := by simpa [hq] using h2
    simp [Instr.index, run_underlying Tryd.underlying46, sizeOf, typeInfo, hq, hj, h1, part, go_sem]
    intro h4
    omega
end Go.Proofs.YtdnhecgjfanakaaDoor
