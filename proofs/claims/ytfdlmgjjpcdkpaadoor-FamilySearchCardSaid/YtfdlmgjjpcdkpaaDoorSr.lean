/- The law on sequences that are left early. -/
import Derived.Test.YtfdlmgjjpcdkpaaDoorSh
import Derived.Deep.RegionHeld3
import Derived.Deep.RegionWith
import Derived.Maps.AppendAt
namespace Go.Proofs.YtfdlmgjjpcdkpaaDoor
open Go.RowKit Go.Shelf
attribute [local go_sem] Oper.semAt_some

theorem hold_step {W1 A B : World} {g : Nat} {row : Option Nat} (h1 : W1.grownBy A (some g)) (h2 : A.grownBy B row) (hr : ∀ r, row = some r → r = g ∨ W1.heap.size ≤ r) : W1.grownBy B (some g) :=
  ⟨h2.os.trans h1.os, h2.tape.trans h1.tape, h2.output.trans h1.output, Nat.le_trans h1.size h2.size, fun k hk hne => (h2.block k (Nat.lt_of_lt_of_le hk h1.size) (fun e => by
    rcases hr k e.symm with h | h
    · exact hne (by rw [h])
    · omega)).trans (h1.block k hk hne)⟩
theorem row_kept {A B : World} {row : Option Nat} {base q : Nat} {e : TypeId} {v : Value} {l : List Value} (hrow : A.ownsRow base e 1 v q l) (hg : A.grownBy B row) (hr : ∀ r, row = some r → ∃ o : Obj, A.heap[r]? = some o ∧ o.isCells = false) : B.ownsRow base e 1 v q l := by
  refine hrow.kept hg ?_
  rcases hrow.2 with ⟨rfl, _⟩ | ⟨g, cap, cur, rfl, _, hgb, _⟩
  · exact .inl rfl
  · refine .inr fun e => ?_
    obtain ⟨o, ho, hc⟩ := hr g e.symm
    rw [hgb] at ho
    cases ho
    cases hc
theorem box_kept {A B : World} {row : Option Nat} {b : Nat} {t : TypeId} {v : Value} (hv : Boxed A b t v) (hg : A.grownBy B row) (hr : ∀ r, row = some r → ∃ o : Obj, A.heap[r]? = some o ∧ o.isCells = false) : Boxed B b t v :=
  hv.kept hg fun e => by
    obtain ⟨o, ho, hc⟩ := hr b e.symm
    rw [show A.heap[b]? = _ from hv] at ho
    cases ho
    cases hc
theorem take_own {W1 : World} {g n B : Nat} (hB : W1.heap.size ≤ B) : OwnFrom B (fun (pre : List Nat) W => (∃ v, Boxed W g 22 v ∧ W.ownsRow W1.heap.size 28 1 v pre.length (us pre)) ∧ pre.length ≤ n ∧ W1.grownBy W (some g)) := by
  rintro pre A B row ⟨⟨v, hv, hrow⟩, hpn, hgr⟩ hg hr
  exact ⟨⟨v, box_kept hv hg (fun r e => (hr r e).2), row_kept hrow hg (fun r e => (hr r e).2)⟩, hpn, hold_step hgr hg (fun r e => .inr (Nat.le_trans hB (hr r e).1))⟩
theorem fin_own {W1 : World} {g B : Nat} {l : List Nat} (hB : W1.heap.size ≤ B) : OwnFrom B (fun (_ : Unit) W => (∃ v q, Boxed W g 22 v ∧ W.ownsRow W1.heap.size 28 1 v q (us l)) ∧ W1.grownBy W (some g)) := by
  rintro pre A B row ⟨⟨v, q, hv, hrow⟩, hgr⟩ hg hr
  exact ⟨⟨v, q, box_kept hv hg (fun r e => (hr r e).2), row_kept hrow hg (fun r e => (hr r e).2)⟩, hold_step hgr hg (fun r e => .inr (Nat.le_trans hB (hr r e).1))⟩
theorem mk_us {T : Array Value} {F : (Nat → Value) → Array Value} (h : T = F (fun i => T.getD i undef)) : ∃ us, T = F us := ⟨_, h⟩
theorem vals_take {w : World} {A : Option Addr} {l : List Nat} (h : Vals w A (us l)) (n : Nat) : Vals w A (us (l.take n)) := by
  rcases h with h | ⟨ad, hA, hb, hc⟩
  · left
    have : l = [] := by simpa [us] using h
    rw [this]
    simp [us]
  · refine .inr ⟨ad, hA, hb, fun j x hx => hc j x ?_⟩
    have e : us (l.take n) = (us l).take n := by simp [us, List.map_take]
    rw [e, List.getElem?_take] at hx
    split at hx
    · exact hx
    · cases hx
theorem up_keep {a w : World} {p : Addr} {v : Value} (hu : Up a w) (h : a.cell? p = some v) : w.cell? p = some v := (hu.cell (cell_lt h)).trans h
theorem slice_to (A : Option Addr) (l m c : Nat) (hm : m ≤ c) (W : World) : (Instr.slice 22 (.slice A l c) none (some (.int .i64 (m : Int))) none).run Tryd.prog W = .ok (.slice A m c) W := by
  obtain ⟨i0, hi, hz0, hz1, hz2⟩ := info_parts Tryd.info28
  have hel : Tryd.prog.elem 22 = 28 := by kernel_rfl
  rw [run_slice_h (t := 22) (a := A) (len := l) (cap := c) (ht := by rw [hel]; exact Tryd.underlying22) (kh := .i64) (h := (m : Int)) (h0 := by omega) (h2 := by omega), hel]
  have hsz : (sizeOf 28).run Tryd.prog W = .ok i0.size W := by simp [sizeOf, typeInfo, hi]
  rw [hsz]
  have e : ∀ s, sliced A 0 (m : Int).toNat c s = .slice A m c := by
    intro s
    unfold sliced
    have ha : A.map (fun x => x.add (0 * s)) = A := by
      cases A with
      | none => rfl
      | some ad => simp [Addr.add]
    rw [ha, ite_self]
    simp
  show Result.ok (sliced A 0 (m : Int).toNat c i0.size) W = _
  rw [e]
/-- What an append to the list in the box comes to. -/
theorem take_app {W1 W : World} {g q x n₀ : Nat} {v : Value} {l : List Value} (hgr : W1.grownBy W (some g)) (hv : Boxed W g 22 v) (hrow : W.ownsRow W1.heap.size 28 1 v q l) (hgn : n₀ ≤ g) (hg1 : g < W1.heap.size) :
    ∀ (v' : Value) (w9 : World), w9.ownsRow W1.heap.size 28 1 v' (q + 1) (l ++ us [x]) → (W.alloc (.cells #[.int .u16 (x : Int)] 28)).grownBy w9 v.ownBlock →
      Boxed w9 g 22 v ∧ Kp n₀ 28 W1.heap.size W (w9.setCell ⟨g, 0, none⟩ v') ∧ Boxed (w9.setCell ⟨g, 0, none⟩ v') g 22 v' ∧ (w9.setCell ⟨g, 0, none⟩ v').ownsRow W1.heap.size 28 1 v' (q + 1) (l ++ us [x]) ∧ W1.grownBy (w9.setCell ⟨g, 0, none⟩ v') (some g) := by
  intro v' w9 hown' hgrow
  have hsz := hgr.size
  have hv1 : Boxed w9 g 22 v := (hv.alloc _).kept hgrow (hv.not_row (by decide) hrow)
  have hrb : ∀ k, v.ownBlock = some k → W1.heap.size ≤ k ∧ ∃ cs fr, (W.alloc (.cells #[.int .u16 (x : Int)] 28)).heap[k]? = some (.cells cs 28 fr) := by
    intro k ek
    rcases hrow.2 with ⟨rfl, _⟩ | ⟨g0, cap, cur, rfl, hbg, hgb, _⟩
    · simp [Value.ownBlock] at ek
    · obtain rfl : g0 = k := by simpa [Value.ownBlock] using ek
      exact ⟨hbg, cur, _, (Below.heap_alloc _ _ g0 (Array.getElem?_eq_some_iff.1 hgb).1).trans hgb⟩
  refine ⟨hv1, ?_, hv1.set v', hown'.kept (grownBy_setCell' w9 g v') (.inr (hv1.not_row (by decide) hown').symm), ?_⟩
  · have k1 : Kp n₀ 28 W1.heap.size W (W.alloc (.cells #[.int .u16 (x : Int)] 28)) := Kp.of_below ((Below.refl _ W).alloc (Nat.le_refl _) _) (by omega)
    have k2 : Kp n₀ 28 W1.heap.size (W.alloc (.cells #[.int .u16 (x : Int)] 28)) w9 :=
      Kp.of_grown hgrow (by simp; omega) (fun k ek => ⟨by have := (hrb k ek).1; omega, .inr (hrb k ek).2⟩)
    have := hgrow.size
    simp at this
    exact (k1.trans k2).trans (Kp.of_grown (grownBy_setCell' _ _ _) (by omega) (fun k ek => by cases ek; exact ⟨hgn, .inl hg1⟩))
  · have h1 := hold_step hgr (World.grownBy_alloc W (.cells #[.int .u16 (x : Int)] 28) none) (fun r e => by cases e)
    have h2 := hold_step h1 hgrow (fun r e => .inr (hrb r e).1)
    exact hold_step h2 (grownBy_setCell' w9 g v') (fun r e => .inl (by cases e; rfl))
/-- The builtin min of two ints, as one step of a region that draws. -/
theorem step_min2 {P : Program} {ops : Array Oper} {o : Oper} {a : Act} {w : World} {K : Act → World → Prop} {Q : Exit → Act → World → Prop} {E : Prop}
    (hg : Region.wanted o (yielded ops a.tmps) = true) {p q : Operand} {ts : Array TypeId} (hop : o.op = Op.call { callee := Callee.builtin Builtin.min, args := #[p, q], argTypes := ts })
    {k k' : IntKind} {x y z : Int} (hx : a.eval p = .int k x) (hy : a.eval q = .int k' y) (hz : (if y < x then y else x) = z)
    (hK : K (a.put o.dst (.int k z)) w) : if Region.wanted o (yielded ops a.tmps) = true then Oper.wp P o a w K Q else E := by
  rw [if_pos hg]
  subst hz
  have hrun := run_min_int2 (P := P) w ts o.type k k' x y
  unfold Oper.wp
  simp [execOp, hop, resolve, invoke, builtin, hx, hy, hrun, Result.andThen]
  exact hK
/-- The statement 'for x := range g { .. }' in a block, whose body may break off. -/
theorem range_take {α : Type} {P : Program} {g : Operand} {ps : Array Tmp} {assign body : Code} {Q : Exit → Act → World → Prop} {a : Act} {w : World} {b : Nat}
    {gf : Nat} {lb : Array Value} (hg : a.eval g = .func (.func gf) #[] lb) (eg : ∀ args w, (callFunc gf args).run P w = .ok (.enter gf args) w)
    {enc : α → Value} {n₀ : Nat} {e : TypeId} {xs : List α} {w0 : World} (hseq : SeqO P gf lb enc n₀ e xs w0) (hb0 : Below w0.heap.size w0 w) (hn₀ : n₀ ≤ w.heap.size) (hps : ps.size = 1)
    (I : List α → World → Prop) (Fin : World → Prop) (hI : OwnFrom w.heap.size I) (hF : OwnFrom w.heap.size (fun (_ : Unit) W => Fin W)) (h0 : I [] w) (a₁ : α → Act)
    (hassign : ∀ (l : Nat) (x : α) (W : World) (K : Act → World → Prop), K (a₁ x) W →
      assign.wpIn (Fence.wide.inRound l) 0 P (Exit.then K (fun _ _ _ => False)) { tmps := (ps.zip #[enc x]).foldl (fun t (p, v) => t.setIfInBounds p v) a.tmps, defers := [] } W)
    (hbody : ∀ (l : Nat) (pre : List α) (x : α) (W : World), I pre W → pre ++ [x] <+: xs → body.wpIn (Fence.wide.inRound l) 0 P (rgPost w.heap.size n₀ e I (fun c _ W => c = .exit b ∧ Fin W) (pre ++ [x]) W) (a₁ x) W)
    (hfin : ∀ W, I xs W → Fin W)
    (hdone : ∀ (D : Nat) (W : World), w.heap.size ≤ D → Fin W → W.heap[D]? = some (.deferred (some [])) → Q .normal { a with defers := { target := .collected D, args := #[] } :: a.defers } W) :
    (Code.rangeFunc g ps assign body).wp P (Exit.inBlock b Q) a w := by
  refine (wpIn_wide (n := 0)).1 ?_
  refine range_walk hg eg hseq hb0 hn₀ hps I (fun c _ W => c = .exit b ∧ Fin W) hI (fun c pre A B row hs hg hr => ⟨hs.1, hF () A B row hs.2 hg hr⟩) h0 a₁ hassign hbody ?_ ?_
  · intro D W hD hi hk
    exact hdone D W hD (hfin W hi) hk
  · rintro D c pre W hD _ ⟨rfl, hF⟩ hk
    refine wpIn_wide.2 ?_
    exact wp_exit (by show (if b = b then _ else _); rw [if_pos rfl]; exact hdone D W hD hF hk)
end Go.Proofs.YtfdlmgjjpcdkpaaDoor
