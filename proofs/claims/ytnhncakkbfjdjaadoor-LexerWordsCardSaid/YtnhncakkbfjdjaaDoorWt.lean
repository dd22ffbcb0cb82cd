/- Rows of tokens in memory: append of one, and how they read. -/
import Derived.Test.YtnhncakkbfjdjaaDoorWs
import Derived.Laws.AppendOwn
namespace Go.Proofs.YtnhncakkbfjdjaaDoor
open Go.RowKit

def tkcs (x : Tk × Nat) : List Value := [.int .i64 x.1.kind, .string (bs x.1.text), .int .i64 x.1.int, .string (bs x.1.str), .int .i64 (x.2 : Int)]
def tcs (l : List (Tk × Nat)) : List Value := l.flatMap tkcs
theorem tcs_len (l : List (Tk × Nat)) : (tcs l).length = l.length * 5 := by
  induction l with
  | nil => rfl
  | cons x l ih => show (tkcs x ++ tcs l).length = _; rw [List.length_append, ih]; simp only [List.length_cons, tkcs, List.length_nil]; omega
theorem tcs_append (l m : List (Tk × Nat)) : tcs (l ++ m) = tcs l ++ tcs m := by unfold tcs; rw [List.flatMap_append]
theorem tcs_get (l : List (Tk × Nat)) : ∀ (i : Nat) (x : Tk × Nat) (j : Nat), l[i]? = some x → j < 5 → (tcs l)[i * 5 + j]? = (tkcs x)[j]? := by
  induction l with
  | nil => intro i x j h; simp at h
  | cons y l ih =>
    intro i x j h hj
    show (tkcs y ++ tcs l)[i * 5 + j]? = _
    cases i with
    | zero =>
      simp at h
      subst h
      rw [Nat.zero_mul, Nat.zero_add, List.getElem?_append_left (by exact hj)]
    | succ i =>
      rw [List.getElem?_append_right (by show 5 ≤ _; omega), show (i + 1) * 5 + j - (tkcs y).length = i * 5 + j by show (i + 1) * 5 + j - 5 = _; omega]
      exact ih i x j (by simpa using h) hj
theorem tkcs_one (x : Tk × Nat) : ∀ u ∈ tkcs x, u.oneCell' = true := by
  intro u hu
  simp only [tkcs, List.mem_cons, List.mem_nil_iff, or_false] at hu
  rcases hu with rfl | rfl | rfl | rfl | rfl <;> rfl
/-- A row of tokens that the call itself has made. -/
def OwnT (w : World) (base : Nat) (v : Value) (n : Nat) (l : List (Tk × Nat)) : Prop := w.ownsRow base 30 5 v n (tcs l)
theorem OwnT.nil (w : World) (base : Nat) : OwnT w base (.slice none 0 0) 0 [] := World.ownsRow_nil _ _ _ _
theorem OwnT.allo {w : World} {base n : Nat} {v : Value} {l : List (Tk × Nat)} (h : OwnT w base v n l) (o : Obj) : OwnT (w.alloc o) base v n l := World.ownsRow.alloc h o
theorem OwnT.up {w w' : World} {base : Nat} {v : Value} {n : Nat} {l : List (Tk × Nat)} (h : OwnT w base v n l) (hu : Up w w') : OwnT w' base v n l := by
  unfold OwnT at h ⊢
  by_cases hn : v.ownBlock = none
  · exact h.kept (up_grown hu) (.inl hn)
  · exact h.kept (up_grown hu) (.inr hn)
theorem OwnT.lt {w : World} {base : Nat} {v : Value} {n : Nat} {l : List (Tk × Nat)} (h : OwnT w base v n l) : ∀ k, v.ownBlock = some k → base ≤ k ∧ k < w.heap.size := World.ownsRow.lt h
theorem OwnT.len {w : World} {base : Nat} {v : Value} {n : Nat} {l : List (Tk × Nat)} (h : OwnT w base v n l) : l.length = n := by
  have := h.1; rw [tcs_len] at this; omega
theorem OwnT.grownB {w w' w0 : World} {base n : Nat} {v : Value} {l : List (Tk × Nat)} (hown : OwnT w base v n l) (hup : Below base w0 w) (hg : w.grownBy w' v.ownBlock) (hb : base ≤ w.heap.size) : Below base w0 w' :=
  hup.grown hg hb (fun k hk => (hown.lt k hk).1)
/-- The slice at A reads as these tokens. -/
def Tks (w : World) (A : Option Addr) (l : List (Tk × Nat)) : Prop :=
  ∀ (i : Nat) (x : Tk × Nat), l[i]? = some x → ∃ g, A = some ⟨g, 0, none⟩ ∧ w.cell? ⟨g, i * 5, none⟩ = some (.int .i64 x.1.kind) ∧ w.cell? ⟨g, i * 5 + 1, none⟩ = some (.string (bs x.1.text)) ∧ w.cell? ⟨g, i * 5 + 2, none⟩ = some (.int .i64 x.1.int) ∧ w.cell? ⟨g, i * 5 + 3, none⟩ = some (.string (bs x.1.str)) ∧ w.cell? ⟨g, i * 5 + 4, none⟩ = some (.int .i64 (x.2 : Int))
theorem up_keep {w w' : World} (hu : Up w w') {p : Addr} {v : Value} (h : w.cell? p = some v) : w'.cell? p = some v := (hu.cell (cell_lt h)).trans h
theorem Tks.up {w w' : World} {A : Option Addr} {l : List (Tk × Nat)} (h : Tks w A l) (hu : Up w w') : Tks w' A l := by
  intro i x hi
  obtain ⟨g, hA, h0, h1, h2, h3, h4⟩ := h i x hi
  exact ⟨g, hA, up_keep hu h0, up_keep hu h1, up_keep hu h2, up_keep hu h3, up_keep hu h4⟩
theorem OwnT.tks {w : World} {base n : Nat} {v : Value} {l : List (Tk × Nat)} (h : OwnT w base v n l) : ∃ A c, v = .slice A n c ∧ n ≤ c ∧ Tks w A l := by
  obtain ⟨hl, hc⟩ := h
  rw [tcs_len] at hl
  rcases hc with ⟨rfl, rfl⟩ | ⟨g, cap, cur, rfl, hb, hg, hnc, hm, hs, ht⟩
  · have : l = [] := List.length_eq_zero_iff.1 (by omega)
    subst this
    exact ⟨none, 0, rfl, Nat.le_refl _, fun i x hi => by simp at hi⟩
  · refine ⟨_, cap, rfl, hnc, fun i x hi => ?_⟩
    have hcell : ∀ j y, (tcs l)[j]? = some y → w.cell? ⟨g, j, none⟩ = some y := by
      intro j y hx
      rw [← ht, List.getElem?_take] at hx
      split at hx
      · simp [World.cell?, hg, Array.getElem?_toList ▸ hx]
      · cases hx
    exact ⟨g, rfl, hcell _ _ (tcs_get l i x 0 hi (by omega)), hcell _ _ (tcs_get l i x 1 hi (by omega)), hcell _ _ (tcs_get l i x 2 hi (by omega)), hcell _ _ (tcs_get l i x 3 hi (by omega)), hcell _ _ (tcs_get l i x 4 hi (by omega))⟩
theorem info_parts5 {i? : Option TypeInfo} {z : Value} {size bytes : Nat} (h : i?.map (fun i => (i.zero, i.size, i.bytes)) = some (some z, size, bytes)) : ∃ i, i? = some i ∧ i.zero = some z ∧ i.size = size ∧ i.bytes = bytes := by
  cases i? with
  | none => simp at h
  | some i => simp only [Option.map_some, Option.some.injEq, Prod.mk.injEq] at h; exact ⟨i, rfl, h.1, h.2.1, h.2.2⟩
theorem info_token : (Tryd.prog.info? 30).map (fun i => (i.zero, i.size, i.bytes)) = some (some (.agg #[.int .i64 0, .string ⟨#[]⟩, .int .i64 0, .string ⟨#[]⟩, .int .i64 0]), 5, 56) := by kernel_rfl
theorem cells_new5 (w : World) (x : Tk × Nat) (cs : Array Value) (t : TypeId) (hcs : cs = (tkcs x).toArray) : ∀ j u, (tkcs x)[j]? = some u → (w.alloc (.cells cs t)).cell? ((⟨w.heap.size, 0, none⟩ : Addr).add j) = some u := by
  intro j u hu
  subst hcs
  have ha : ((⟨w.heap.size, 0, none⟩ : Addr).add j) = ⟨w.heap.size, j, none⟩ := by unfold Addr.add; split <;> simp_all
  rw [ha, World.cell?_alloc_new, List.getElem?_toArray]
  exact hu
set_option maxRecDepth 100000 in
theorem run_appT (w : World) (base : Nat) (ty : TypeId) (v : Value) (n : Nat) (xs : List (Tk × Nat)) (hown : OwnT w base v n xs) (ad : Addr) (c : Nat) (x : Tk × Nat) (hA : ∀ j u, (tkcs x)[j]? = some u → w.cell? (ad.add j) = some u) (hb : n ≤ 100000) (hbase : base ≤ w.heap.size) :
    ∃ v' w', (Builtin.append_ #[23, 23] ty #[v, .slice (some ad) 1 c]).run Tryd.prog w = .ok v' w' ∧ OwnT w' base v' (n + 1) (xs ++ [x]) ∧ w.grownBy w' v.ownBlock := by
  obtain ⟨i0, hi, hz0, hz1, hz2⟩ := info_parts5 info_token
  obtain ⟨v', w', hr, h2, h3, _⟩ := run_append_own (P := Tryd.prog) w base 23 ty 30 i0 _ 5 56 Tryd.underlying23 hi hz0 hz1 hz2 rfl (by decide) v n (tcs xs) hown ad 1 c (tkcs x) rfl hA (tkcs_one x) (by unfold maxLen; omega) (by omega) hbase
  refine ⟨v', w', hr, ?_, h3⟩
  unfold OwnT
  rw [tcs_append]
  have e : tcs [x] = tkcs x := by unfold tcs; simp
  rw [e]
  exact h2
set_option maxRecDepth 100000 in
theorem wp_appT {w : World} {ops : Array Oper} {rest : List Oper} {o : Oper} {a : Act} {Q : Exit → Act → World → Prop} (hgd : o.guard = none) (s y : Operand)
    (ho : o.op = .call { callee := .builtin .append, args := #[s, y], argTypes := #[23, 23] })
    (base : Nat) (v : Value) (n : Nat) (xs : List (Tk × Nat)) (hs : a.eval s = v) (hown : OwnT w base v n xs) (ad : Addr) (c : Nat) (x : Tk × Nat) (hx : a.eval y = .slice (some ad) 1 c) (hA : ∀ j u, (tkcs x)[j]? = some u → w.cell? (ad.add j) = some u) (hb : n ≤ 100000) (hbase : base ≤ w.heap.size)
    (h : ∀ v' w', OwnT w' base v' (n + 1) (xs ++ [x]) → w.grownBy w' v.ownBlock → wpList Tryd.prog ops Q rest (a.put o.dst v') w') : wpList Tryd.prog ops Q (o :: rest) a w := by
  refine wpList_plain hgd fun K hK => ?_
  obtain ⟨v', w', hr, h2, h3⟩ := run_appT w base o.type v n xs hown ad c x hA hb hbase
  unfold Oper.wp execOp
  simp only [ho, resolve, invoke, builtin, Sem.run_bind, Sem.run_pure, Result.andThen_ok, List.map_toArray, List.map_cons, List.map_nil, hs, hx, hr]
  exact hK _ _ (h v' w' h2 h3)
/-- What Tokens returns: the tokens, or a line and an error. -/
def RetToks (w : World) (base : Nat) (x : Nat ⊕ List (Tk × Nat)) (e : Ending) (w' : World) : Prop :=
  match x with
  | .inl n => e = .returned (.tuple #[.slice none 0 0, .int .i64 (n : Int), .int .i64 2]) ∧ Up w w'
  | .inr l => ∃ v n, e = .returned (.tuple #[v, .int .i64 0, .int .i64 0]) ∧ OwnT w' base v n l ∧ Up w w'
end Go.Proofs.YtnhncakkbfjdjaaDoor
