/- The laws of append and make at []uint8 in this program, in the words of Base2. -/
import Derived.Test.YtfdlmgjjpcdkpaaDoorBase2
namespace Go.Proofs.YtfdlmgjjpcdkpaaDoor
open Go.RowKit

/-- A row of uint8 that the call itself has made (or nil), said of numbers. -/
def Own (w : World) (base : Nat) (v : Value) (n : Nat) (l : List Nat) : Prop := w.ownsRow base 5 1 v n (u8s l)
theorem Own.len {w : World} {base : Nat} {v : Value} {n : Nat} {l : List Nat} (h : Own w base v n l) : l.length = n := by
  have := h.1; rw [u8s_len] at this; omega
theorem Own.nil (w : World) (base : Nat) : Own w base (.slice none 0 0) 0 [] := World.ownsRow_nil _ _ _ _
theorem up_grown {w w' : World} (h : Up w w') : w.grownBy w' none := ⟨h.os, h.tape, h.output, h.size, fun k hk _ => h.block k hk⟩
theorem Own.up {w w' : World} {base : Nat} {v : Value} {n : Nat} {l : List Nat} (h : Own w base v n l) (hu : Up w w') : Own w' base v n l := by
  unfold Own at h ⊢
  by_cases hn : v.ownBlock = none
  · exact h.kept (up_grown hu) (.inl hn)
  · exact h.kept (up_grown hu) (.inr hn)
theorem Own.lim {w : World} {base : Nat} {v : Value} {n : Nat} {l : List Nat} (h : Own w base v n l) : ∃ A c, v = .slice A n c ∧ n ≤ c ∧ Lim w A l ∧ NewB base A := own_lim h
theorem Own.lt {w : World} {base : Nat} {v : Value} {n : Nat} {l : List Nat} (h : Own w base v n l) : ∀ k, v.ownBlock = some k → base ≤ k ∧ k < w.heap.size := World.ownsRow.lt h
theorem Own.cell {w : World} {base g n c : Nat} {l : List Nat} (h : Own w base (.slice (some ⟨g, 0, none⟩) n c) n l) {j : Nat} (hj : j < n) : w.cell? ⟨g, j, none⟩ = some (.int .u8 ((l.getD j 0 : Nat) : Int)) := by
  have hl := h.len
  rw [World.ownsRow.cellAt h j (by omega)]
  have hjl : j < l.length := by omega
  rw [u8s_get (x := l.getD j 0)]
  simp [List.getD, hjl]
theorem Own.frozen {w : World} {base g n c : Nat} {l : List Nat} (h : Own w base (.slice (some ⟨g, 0, none⟩) n c) n l) (j : Nat) : w.frozen? ⟨g, j, none⟩ = false := World.ownsRow.frozenAt h j
theorem u8s_set (l : List Nat) (j x : Nat) : (u8s l).set j (.int .u8 (x : Int)) = u8s (l.set j x) := by simp [u8s, List.map_set]
theorem Own.set_ {w : World} {base g n c : Nat} {l : List Nat} (h : Own w base (.slice (some ⟨g, 0, none⟩) n c) n l) (j x : Nat) : Own (w.setCell ⟨g, j, none⟩ (.int .u8 (x : Int))) base (.slice (some ⟨g, 0, none⟩) n c) n (l.set j x) := by
  have := (World.ownsRow.stored h j (.int .u8 (x : Int))).1
  rw [u8s_set] at this
  exact this
theorem Own.form {w : World} {base n : Nat} {v : Value} {l : List Nat} (h : Own w base v n l) (hn : 0 < n) : ∃ g c, v = .slice (some ⟨g, 0, none⟩) n c ∧ base ≤ g ∧ g < w.heap.size ∧ n ≤ c := by
  rcases h.2 with ⟨_, h0⟩ | ⟨g, cap, cur, rfl, hb, hg, hnc, _⟩
  · omega
  · exact ⟨g, cap, rfl, hb, (World.ownsRow.lt h g rfl).2, hnc⟩
/-- A literal of numbers in a new block is owned. -/
theorem Own.lit (w : World) {base n : Nat} (l : List Nat) (cs : Array Value) (hb : base ≤ w.heap.size) (hn : n ≤ 1000000) (hl : l.length = n) (hcs : cs = (u8s l).toArray) :
    Own (w.alloc (.cells cs 5)) base (.slice (some ⟨w.heap.size, 0, none⟩) n n) n l := by
  subst hcs
  have h := World.ownsRow_lit (e := 5) (size := 1) w (u8s l).toArray n hb (by unfold maxLen; omega) (by simp [u8s_len, hl])
  unfold Own
  simpa using h

set_option maxRecDepth 100000 in
theorem run_app (w : World) (base : Nat) (ty : TypeId) (v : Value) (n : Nat) (xs : List Nat) (hown : Own w base v n xs) (A : Option Addr) (m c : Nat) (l : List Nat) (hl : l.length = m) (hA : Lim w A l) (hb : n + m ≤ 1000000) (hbase : base ≤ w.heap.size) :
    ∃ v' w', (Builtin.append_ #[85, 85] ty #[v, .slice A m c]).run Tryd.prog w = .ok v' w' ∧ Own w' base v' (n + m) (xs ++ l) ∧ w.grownBy w' v.ownBlock := by
  obtain ⟨i0, hi, hz0, hz1, hz2⟩ := info_parts Tryd.info5
  unfold Own at hown ⊢
  rw [u8s_append]
  rcases A with _ | ad
  · have hln : l = [] := by rcases hA with h | ⟨ad, h, _⟩ <;> first | exact h | cases h
    subst hln
    simp at hl
    subst hl
    refine ⟨v, w, ?_, by simpa [u8s] using hown, World.grownBy.refl w _⟩
    rcases hown.2 with ⟨rfl, rfl⟩ | ⟨g, cap, cur, rfl, _, _, hnc, _⟩
    · simp [Builtin.append_, run_underlying Tryd.underlying85, sizeOf, typeInfo, hi, Builtin.lenOf, Builtin.firstCells]
    · simp [Builtin.append_, run_underlying Tryd.underlying85, sizeOf, typeInfo, hi, Builtin.lenOf, Builtin.firstCells, hnc, storeCells]
  · have hnews : ∀ j u, (u8s l)[j]? = some u → w.cell? (ad.add j) = some u := by
      intro j u hu
      rcases hA with rfl | ⟨ad', he, _, hc⟩
      · simp [u8s] at hu
      · injection he with he
        subst he
        simp only [u8s, List.getElem?_map, Option.map_eq_some_iff] at hu
        obtain ⟨x, hx, rfl⟩ := hu
        exact hc j x hx
    obtain ⟨v', w', hr, h2, h3, _⟩ := run_append_own (P := Tryd.prog) w base 85 ty 5 i0 (.int .u8 0) 1 1 Tryd.underlying85 hi hz0 hz1 hz2 rfl (by decide) v n (u8s xs) hown ad m c (u8s l) (by rw [u8s_len]; omega) hnews (u8s_one l) (by unfold maxLen; omega) (by omega) hbase
    exact ⟨v', w', hr, h2, h3⟩

set_option maxRecDepth 100000 in
/-- append onto a row of the call's own, whatever the source. -/
theorem wp_app {w : World} {ops : Array Oper} {rest : List Oper} {o : Oper} {a : Act} {Q : Exit → Act → World → Prop} (hgd : o.guard = none) (s x : Operand)
    (ho : o.op = .call { callee := .builtin .append, args := #[s, x], argTypes := #[85, 85] })
    (base : Nat) (v : Value) (n : Nat) (xs : List Nat) (hs : a.eval s = v) (hown : Own w base v n xs) (A : Option Addr) (m c : Nat) (l : List Nat) (hx : a.eval x = .slice A m c) (hl : l.length = m) (hA : Lim w A l) (hb : n + m ≤ 1000000) (hbase : base ≤ w.heap.size)
    (h : ∀ v' w', Own w' base v' (n + m) (xs ++ l) → w.grownBy w' v.ownBlock → wpList Tryd.prog ops Q rest (a.put o.dst v') w') : wpList Tryd.prog ops Q (o :: rest) a w := by
  refine wpList_plain hgd fun K hK => ?_
  obtain ⟨v', w', hr, h2, h3⟩ := run_app w base o.type v n xs hown A m c l hl hA hb hbase
  unfold Oper.wp execOp
  simp only [ho, resolve, invoke, builtin, Sem.run_bind, Sem.run_pure, Result.andThen_ok, List.map_toArray, List.map_cons, List.map_nil, hs, hx, hr]
  exact hK _ _ (h v' w' h2 h3)

set_option maxRecDepth 100000 in
/-- make of a row of zeros. -/
theorem wp_mk {w : World} {ops : Array Oper} {rest : List Oper} {o : Oper} {a : Act} {Q : Exit → Act → World → Prop} (hgd : o.guard = none) (l c : Operand) (hop : o.op = Op.makeSlice 85 l c)
    (base n : Nat) (kl kc : IntKind) (L C : Int) (hl : a.eval l = .int kl L) (hc : a.eval c = .int kc C) (hL : L = (n : Int)) (hC : C = (n : Int)) (hn : n ≤ 1000000) (hb : base ≤ w.heap.size)
    (h : ∀ w', Own w' base (.slice (some ⟨w.heap.size, 0, none⟩) n n) n (List.replicate n 0) → Up w w' → w.heap.size < w'.heap.size → wpList Tryd.prog ops Q rest (a.put o.dst (.slice (some ⟨w.heap.size, 0, none⟩) n n)) w') :
    wpList Tryd.prog ops Q (o :: rest) a w := by
  obtain ⟨i0, hi, hz0, hz1, hz2⟩ := info_parts Tryd.info5
  refine wpList_make_full w hgd l c 85 hop base 5 i0 (.int .u8 0) 1 Tryd.underlying85 hi hz0 hz1 kl kc L C n hl hc hL hC (by rw [hz2]; omega) (by unfold maxLen; omega) hb fun w' hown hg => ?_
  rw [Nat.mul_one, show (Value.int .u8 0).cells = #[.int .u8 0] from rfl, toList_madeCells_one, show List.replicate n (Value.int .u8 0) = u8s (List.replicate n 0) by simp [u8s]] at hown
  exact h w' hown ((Up.refl w).grown hg (fun k hk => by cases hk)) (World.ownsRow.lt hown _ rfl).2
end Go.Proofs.YtfdlmgjjpcdkpaaDoor
