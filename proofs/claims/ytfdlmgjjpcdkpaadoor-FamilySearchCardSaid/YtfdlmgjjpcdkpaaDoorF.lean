/- Lists of strings and of integers in memory. -/
import Derived.Test.YtfdlmgjjpcdkpaaDoorStr
namespace Go.Proofs.YtfdlmgjjpcdkpaaDoor
open Go.RowKit

theorem Tryd.info9 : (Tryd.prog.info? 9).map (fun i => (i.zero, i.size, i.bytes)) = some (some (.string ⟨#[]⟩), 1, 16) := by kernel_rfl
theorem Tryd.info3 : (Tryd.prog.info? 3).map (fun i => (i.zero, i.size, i.bytes)) = some (some (.int .i64 0), 1, 8) := by kernel_rfl
/-- The slice at A reads as these values. -/
def Vals (w : World) (A : Option Addr) (l : List Value) : Prop :=
  l = [] ∨ ∃ ad, A = some ad ∧ ad.block < w.heap.size ∧ ∀ (j : Nat) (x : Value), l[j]? = some x → w.cell? (ad.add j) = some x
theorem Vals.at_ {w : World} {A : Option Addr} {l : List Value} (h : Vals w A l) {k : Nat} {x : Value} (hk : l[k]? = some x) : ∃ ad, A = some ad ∧ ad.block < w.heap.size ∧ w.cell? (ad.add k) = some x := by
  rcases h with rfl | ⟨ad, hA, hb, hc⟩
  · simp at hk
  · exact ⟨ad, hA, hb, hc k x hk⟩
theorem Vals.up {w w' : World} {A : Option Addr} {l : List Value} (h : Vals w A l) (hu : Up w w') : Vals w' A l := by
  rcases h with rfl | ⟨ad, hA, hb, hc⟩
  · exact Or.inl rfl
  · exact Or.inr ⟨ad, hA, Nat.lt_of_lt_of_le hb hu.size, fun j x hx => (hu.cell (by rw [addBlock]; exact hb)).trans (hc j x hx)⟩
def ss (l : List ByteArray) : List Value := l.map Value.string
def is (l : List Int) : List Value := l.map (Value.int .i64)
theorem ss_one (l : List ByteArray) : ∀ u ∈ ss l, u.oneCell' = true := by
  intro u hu
  simp only [ss, List.mem_map] at hu
  obtain ⟨x, _, rfl⟩ := hu
  rfl
theorem is_one (l : List Int) : ∀ u ∈ is l, u.oneCell' = true := by
  intro u hu
  simp only [is, List.mem_map] at hu
  obtain ⟨x, _, rfl⟩ := hu
  rfl
theorem ss_get {l : List ByteArray} {k : Nat} (h : k < l.length) : (ss l)[k]? = some (.string (l.getD k ⟨#[]⟩)) := by simp [ss, List.getD, h]
theorem is_get {l : List Int} {k : Nat} (h : k < l.length) : (is l)[k]? = some (.int .i64 (l.getD k 0)) := by simp [is, List.getD, h]
theorem ss_len (l : List ByteArray) : (ss l).length = l.length := by simp [ss]
theorem is_len (l : List Int) : (is l).length = l.length := by simp [is]
theorem ss_append (l m : List ByteArray) : ss (l ++ m) = ss l ++ ss m := by simp [ss]
theorem is_append (l m : List Int) : is (l ++ m) = is l ++ is m := by simp [is]
/-- A row that the call has made, of strings, of integers. -/
def OwnS (w : World) (base : Nat) (v : Value) (n : Nat) (l : List ByteArray) : Prop := w.ownsRow base 9 1 v n (ss l)
def OwnI (w : World) (base : Nat) (v : Value) (n : Nat) (l : List Int) : Prop := w.ownsRow base 3 1 v n (is l)
set_option maxRecDepth 100000 in
/-- An owned row reads as its values. -/
theorem own_vals {w : World} {base n : Nat} {e : TypeId} {v : Value} {l : List Value} (h : w.ownsRow base e 1 v n l) : ∃ A c, v = .slice A n c ∧ n ≤ c ∧ Vals w A l ∧ l.length = n ∧ NewB base A := by
  obtain ⟨hl, hc⟩ := h
  have hl' : l.length = n := by omega
  rcases hc with ⟨rfl, rfl⟩ | ⟨g, cap, cur, rfl, hb, hg, hnc, hm, hs, ht⟩
  · exact ⟨none, 0, rfl, Nat.le_refl _, Or.inl (List.length_eq_zero_iff.1 hl'), hl', NewB.none_ _⟩
  · refine ⟨_, cap, rfl, hnc, Or.inr ⟨_, rfl, ?_, fun j x hx => ?_⟩, hl', fun ad e => by cases e; exact hb⟩
    · rcases Nat.lt_or_ge g w.heap.size with h1 | h1
      · exact h1
      · rw [Array.getElem?_eq_none h1] at hg; cases hg
    · rw [← ht, List.getElem?_take] at hx
      have ha : ((⟨g, 0, none⟩ : Addr).add j) = ⟨g, j, none⟩ := by unfold Addr.add; split <;> simp_all
      rw [ha]
      split at hx
      · simp [World.cell?, hg, Array.getElem?_toList ▸ hx]
      · cases hx
theorem vals_one (w : World) (x : Value) (t : TypeId) : Vals (w.alloc (.cells #[x] t)) (some ⟨w.heap.size, 0, none⟩) [x] :=
  Or.inr ⟨_, rfl, by simp, fun j u hj => by match j, hj with | 0, hj => (simp at hj; subst hj; exact cell_new _ _ _)⟩
set_option maxRecDepth 100000 in
/-- append of values onto a row of the call's own. -/
theorem run_appV (w : World) (base : Nat) (ts te ty : TypeId) (z : Value) (bytes : Nat) (hu : Tryd.prog.underlying ts = some (.slice te)) (hinfo : (Tryd.prog.info? te).map (fun i => (i.zero, i.size, i.bytes)) = some (some z, 1, bytes)) (hzc : z.cells.size = 1) (hby : bytes ≤ 16)
    (v : Value) (n : Nat) (xs : List Value) (hown : w.ownsRow base te 1 v n xs) (A : Option Addr) (m c : Nat) (l : List Value) (hl : l.length = m) (h1 : ∀ u ∈ l, u.oneCell' = true) (hA : Vals w A l) (hb : n + m ≤ 1000000) (hbase : base ≤ w.heap.size) :
    ∃ v' w', (Builtin.append_ #[ts, ts] ty #[v, .slice A m c]).run Tryd.prog w = .ok v' w' ∧ w'.ownsRow base te 1 v' (n + m) (xs ++ l) ∧ w.grownBy w' v.ownBlock := by
  obtain ⟨i0, hi, hz0, hz1, hz2⟩ := info_parts hinfo
  rcases A with _ | ad
  · have hln : l = [] := by rcases hA with h | ⟨ad, h, _⟩ <;> first | exact h | cases h
    subst hln
    simp at hl
    subst hl
    refine ⟨v, w, ?_, by simpa using hown, World.grownBy.refl w _⟩
    rcases hown.2 with ⟨rfl, rfl⟩ | ⟨g, cap, cur, rfl, _, _, hnc, _⟩
    · simp [Builtin.append_, run_underlying hu, sizeOf, typeInfo, hi, Builtin.lenOf, Builtin.firstCells]
    · simp [Builtin.append_, run_underlying hu, sizeOf, typeInfo, hi, Builtin.lenOf, Builtin.firstCells, hnc, storeCells]
  · have hnews : ∀ j u, l[j]? = some u → w.cell? (ad.add j) = some u := by
      intro j u hu
      rcases hA with rfl | ⟨ad', he, _, hc⟩
      · simp at hu
      · injection he with he
        subst he
        exact hc j u hu
    obtain ⟨v', w', hr, h2, h3, _⟩ := run_append_own (P := Tryd.prog) w base ts ty te i0 z 1 bytes hu hi hz0 hz1 hz2 hzc (by decide) v n xs hown ad m c l (by omega) hnews h1 (by unfold maxLen; omega) (by have : (n + m) * bytes ≤ 1000000 * 16 := Nat.mul_le_mul hb hby; omega) hbase
    exact ⟨v', w', hr, h2, h3⟩
set_option maxRecDepth 100000 in
theorem wp_appV {w : World} {ops : Array Oper} {rest : List Oper} {o : Oper} {a : Act} {Q : Exit → Act → World → Prop} (hgd : o.guard = none) (s x : Operand) (ts te : TypeId)
    (ho : o.op = .call { callee := .builtin .append, args := #[s, x], argTypes := #[ts, ts] })
    (base : Nat) (z : Value) (bytes : Nat) (hu : Tryd.prog.underlying ts = some (.slice te)) (hinfo : (Tryd.prog.info? te).map (fun i => (i.zero, i.size, i.bytes)) = some (some z, 1, bytes)) (hzc : z.cells.size = 1) (hby : bytes ≤ 16)
    (v : Value) (n : Nat) (xs : List Value) (hs : a.eval s = v) (hown : w.ownsRow base te 1 v n xs) (A : Option Addr) (m c : Nat) (l : List Value) (hx : a.eval x = .slice A m c) (hl : l.length = m) (h1 : ∀ u ∈ l, u.oneCell' = true) (hA : Vals w A l) (hb : n + m ≤ 1000000) (hbase : base ≤ w.heap.size)
    (h : ∀ v' w', w'.ownsRow base te 1 v' (n + m) (xs ++ l) → w.grownBy w' v.ownBlock → wpList Tryd.prog ops Q rest (a.put o.dst v') w') : wpList Tryd.prog ops Q (o :: rest) a w := by
  refine wpList_plain hgd fun K hK => ?_
  obtain ⟨v', w', hr, h2, h3⟩ := run_appV w base ts te o.type z bytes hu hinfo hzc hby v n xs hown A m c l hl h1 hA hb hbase
  unfold Oper.wp execOp
  simp only [ho, resolve, invoke, builtin, Sem.run_bind, Sem.run_pure, Result.andThen_ok, List.map_toArray, List.map_cons, List.map_nil, hs, hx, hr]
  exact hK _ _ (h v' w' h2 h3)
end Go.Proofs.YtfdlmgjjpcdkpaaDoor
