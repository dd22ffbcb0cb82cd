/- A range over a function, walked with an iterator whose own loop may be a range over a function: the caller's invariant abides turned loop records, so that one iterator can be built out of another. -/
import Derived.Test.YtfdlmgjjpcdkpaaDoorProg
import Derived.RangeFuncNested
import Derived.RangeFuncBound
import Derived.RangeFuncCalls
import Derived.RangeFuncLeaves
import Derived.WalkKit
import Derived.OwnWalkIn
import Derived.TacticsInMore
namespace Go.Proofs.YtfdlmgjjpcdkpaaDoor
open Go.RowKit

theorem wideRoom (k : Nat) : Fence.wide.room k := fun d h => by cases h
theorem round_any {m m' : Nat} {P : Program} {l : Nat} {f : FuncId} {tmps : Array Value} {assign body : Code} {w : World} {R : Ending → World → Prop} (h : RoundIn Fence.wide m P l f tmps assign body w R) : RoundIn Fence.wide m' P l f tmps assign body w R :=
  ⟨h.1, fun c cs _ => h.2 c cs (wideRoom _)⟩
theorem yield_any {m m' : Nat} {P : Program} {l : Nat} {args : Array Value} {W : World} {R : Ending → World → Prop} (h : YieldAt Fence.wide m P l args W R) : YieldAt Fence.wide m' P l args W R := by
  obtain ⟨fn, tmps, assign, body, hy, hR⟩ := h
  exact ⟨fn, tmps, assign, body, hy, round_any hR⟩
theorem calls_room {m m' : Nat} {P : Program} {f : FuncId} {args : Array Value} {w : World} {R : Ending → World → Prop} (h : CallsIn Fence.wide m P f args w R) : CallsIn Fence.wide m' P f args w R := callsIn_wide.2 (callsIn_wide.1 h)

/-- What a round that goes on keeps: all below n₀, and from n₁ on whatever holds other things than cells of type e. -/
structure Kp (n₀ : Nat) (e : TypeId) (n₁ : Nat) (W W' : World) : Prop where
  low : Below n₀ W W'
  keep : ∀ (b : Nat) (o : Obj), n₁ ≤ b → W.heap[b]? = some o → (∀ cs fr, o ≠ .cells cs e fr) → W'.heap[b]? = some o
theorem Kp.refl (n₀ : Nat) (e : TypeId) (n₁ : Nat) (W : World) : Kp n₀ e n₁ W W := ⟨Below.refl _ _, fun _b _o _hb ho _hn => ho⟩
theorem Kp.trans {n₀ n₁ : Nat} {e : TypeId} {A B C : World} (h : Kp n₀ e n₁ A B) (k : Kp n₀ e n₁ B C) : Kp n₀ e n₁ A C :=
  ⟨h.low.trans k.low, fun b o hb ho hn => k.keep b o hb (h.keep b o hb ho hn) hn⟩
theorem Kp.size {n₀ n₁ : Nat} {e : TypeId} {A B : World} (h : Kp n₀ e n₁ A B) : A.heap.size ≤ B.heap.size := h.low.size
theorem Kp.of_below {n₀ n₁ : Nat} {e : TypeId} {A B : World} (h : Below A.heap.size A B) (hn : n₀ ≤ A.heap.size) : Kp n₀ e n₁ A B :=
  ⟨Below.mono h hn, fun b _o _hb ho _hn => (h.block b (Array.getElem?_eq_some_iff.1 ho).1).trans ho⟩
theorem Kp.later {n₀ n₁ n₂ : Nat} {e : TypeId} {A B : World} (h : Kp n₀ e n₁ A B) (hn : n₁ ≤ n₂) : Kp n₀ e n₂ A B := ⟨h.low, fun b o hb => h.keep b o (Nat.le_trans hn hb)⟩
/-- A step that turns one block, which lies below n₁ or holds cells of type e. -/
theorem Kp.of_grown {n₀ n₁ : Nat} {e : TypeId} {A B : World} {row : Option Nat} (h : A.grownBy B row) (hn : n₀ ≤ A.heap.size) (hr : ∀ k, row = some k → n₀ ≤ k ∧ (k < n₁ ∨ ∃ cs fr, A.heap[k]? = some (.cells cs e fr))) : Kp n₀ e n₁ A B :=
  ⟨(Below.refl n₀ A).grown h hn (fun k ek => (hr k ek).1), fun b o hb ho hno => by
    refine (h.block b (Array.getElem?_eq_some_iff.1 ho).1 (fun ek => ?_)).trans ho
    rcases (hr b ek.symm).2 with h1 | ⟨cs, fr, h1⟩
    · omega
    · rw [ho] at h1; cases h1; exact hno cs fr rfl⟩

/-- The function value gf with what it has captured yields xs, one after the other, and stops when a round says so. -/
def SeqA {α : Type} (P : Program) (gf : Nat) (lb : Array Value) (encs : α → Array Value) (n₀ : Nat) (e : TypeId) (xs : List α) (w : World) : Prop :=
  ∀ (l : Nat) (J Jx : List α → World → Prop) (W : World), Below w.heap.size w W → OwnFrom W.heap.size J → OwnFrom W.heap.size Jx →
    (∀ pre x W1, J pre W1 → pre ++ [x] <+: xs → YieldAt Fence.wide 0 P l (encs x) W1 fun d W' =>
      (d = .returned (.bool true) ∧ J (pre ++ [x]) W' ∧ Kp n₀ e W.heap.size W1 W') ∨ (d = .returned (.bool false) ∧ Jx (pre ++ [x]) W' ∧ Kp n₀ e W.heap.size W1 W')) →
    J [] W →
    CallsIn Fence.wide 0 P gf (#[.func (.yield l) #[] #[]] ++ lb) W fun d W' => (∃ v, d = .returned v) ∧ (J xs W' ∨ ∃ pre, pre <+: xs ∧ Jx pre W')

/-- .. as long as the rounds keep X. -/
def SeqX {α : Type} (P : Program) (gf : Nat) (lb : Array Value) (encs : α → Array Value) (n₀ : Nat) (e : TypeId) (xs : List α) (w : World) (X : World → Prop) : Prop :=
  ∀ (l : Nat) (J Jx : List α → World → Prop) (W : World), Below w.heap.size w W → OwnFrom W.heap.size J → OwnFrom W.heap.size Jx → (∀ pre W1, J pre W1 → X W1) →
    (∀ pre x W1, J pre W1 → pre ++ [x] <+: xs → YieldAt Fence.wide 0 P l (encs x) W1 fun d W' =>
      (d = .returned (.bool true) ∧ J (pre ++ [x]) W' ∧ Kp n₀ e W.heap.size W1 W') ∨ (d = .returned (.bool false) ∧ Jx (pre ++ [x]) W' ∧ Kp n₀ e W.heap.size W1 W')) →
    J [] W →
    CallsIn Fence.wide 0 P gf (#[.func (.yield l) #[] #[]] ++ lb) W fun d W' => (∃ v, d = .returned v) ∧ (J xs W' ∨ ∃ pre, pre <+: xs ∧ Jx pre W')
theorem SeqA.x {α : Type} {P : Program} {gf : Nat} {lb : Array Value} {encs : α → Array Value} {n₀ : Nat} {e : TypeId} {xs : List α} {w : World} (h : SeqA P gf lb encs n₀ e xs w) (X : World → Prop) : SeqX P gf lb encs n₀ e xs w X :=
  fun l J Jx W h1 h2 h3 _ h5 h6 => h l J Jx W h1 h2 h3 h5 h6
abbrev SeqO {α : Type} (P : Program) (gf : Nat) (lb : Array Value) (enc : α → Value) (n₀ : Nat) (e : TypeId) (xs : List α) (w : World) : Prop := SeqA P gf lb (fun x => #[enc x]) n₀ e xs w

/-- How a round's body may be left. -/
def rgPost {α : Type} (B n₀ : Nat) (e : TypeId) (I : List α → World → Prop) (Ix : Code → List α → World → Prop) (xs : List α) (W : World) : Exit → Act → World → Prop
  | .normal, _, W' => Kp n₀ e B W W' ∧ I xs W'
  | .ret, _, W' => Kp n₀ e B W W' ∧ Ix .ret xs W'
  | .exit id, _, W' => Kp n₀ e B W W' ∧ Ix (.exit id) xs W'
  | .goto t, _, W' => Kp n₀ e B W W' ∧ Ix (.goto t) xs W'
  | .panic _, _, _ => False
  | .outgrown, _, _ => False

/-- The record of a loop, whose temporaries are those of the activation. -/
def rgRec (fn : FuncId) (tmps : Array Value) (ps : Array Tmp) (assign body : Code) (D : Nat) (st : LoopState) (pe : Option Code) : Loop :=
  { state := st, pending := pe, fn, tmps, params := ps, assign, body, defers := D }

theorem kp_put {n₀ n₁ : Nat} {e : TypeId} {W : World} {l : Nat} {o o' : Obj} (hl : n₀ ≤ l) (hl1 : l < n₁) (h : W.heap[l]? = some o) : Kp n₀ e n₁ W (W.putObj l o') :=
  Kp.of_grown (grownBy_putObj' W l o') (by have := (Array.getElem?_eq_some_iff.1 h).1; omega) (fun k ek => by cases ek; exact ⟨hl, .inl hl1⟩)

set_option maxHeartbeats 1000000 in
/-- The statement 'for x := range g { .. }' outside of every round. -/
theorem range_walk {α : Type} {P : Program} {n : Nat} {g : Operand} {ps : Array Tmp} {assign body : Code} {Q : Exit → Act → World → Prop} {a : Act} {w : World}
    {gf : Nat} {lb : Array Value} (hg : a.eval g = .func (.func gf) #[] lb) (eg : ∀ args w, (callFunc gf args).run P w = .ok (.enter gf args) w)
    {enc : α → Value} {n₀ : Nat} {e : TypeId} {xs : List α} {w0 : World} (hseq : SeqO P gf lb enc n₀ e xs w0) (hb0 : Below w0.heap.size w0 w) (hn₀ : n₀ ≤ w.heap.size) (hps : ps.size = 1)
    (I : List α → World → Prop) (Ix : Code → List α → World → Prop) (hI : OwnFrom w.heap.size I) (hIx : ∀ c, OwnFrom w.heap.size (Ix c)) (h0 : I [] w) (a₁ : α → Act)
    (hassign : ∀ (l : Nat) (x : α) (W : World) (K : Act → World → Prop), K (a₁ x) W →
      assign.wpIn (Fence.wide.inRound l) (n - 1 - 1) P (Exit.then K (fun _ _ _ => False)) { tmps := (ps.zip #[enc x]).foldl (fun t (p, v) => t.setIfInBounds p v) a.tmps, defers := [] } W)
    (hbody : ∀ (l : Nat) (pre : List α) (x : α) (W : World), I pre W → pre ++ [x] <+: xs → body.wpIn (Fence.wide.inRound l) (n - 1 - 1) P (rgPost w.heap.size n₀ e I Ix (pre ++ [x]) W) (a₁ x) W)
    (hdone : ∀ (D : Nat) (W : World), w.heap.size ≤ D → I xs W → W.heap[D]? = some (.deferred (some [])) → Q .normal { a with defers := { target := .collected D, args := #[] } :: a.defers } W)
    (hstop : ∀ (D : Nat) (c : Code) (pre : List α) (W : World), w.heap.size ≤ D → pre <+: xs → Ix c pre W → W.heap[D]? = some (.deferred (some [])) → c.wpIn Fence.wide n P Q { a with defers := { target := .collected D, args := #[] } :: a.defers } W) :
    (Code.rangeFunc g ps assign body).wpIn Fence.wide n P Q a w := by
  refine wpIn_rangeFunc fun fn hfn => ?_
  obtain ⟨D, hD⟩ : ∃ D, w.heap.size = D := ⟨_, rfl⟩
  obtain ⟨rec, hrec⟩ : ∃ rec, rgRec fn a.tmps ps assign body D = rec := ⟨_, rfl⟩
  have hpar : ∀ st pe, (rec st pe).params = ps := by intro st pe; rw [← hrec]; rfl
  have hfnr : ∀ st pe, (rec st pe).fn = fn := by intro st pe; rw [← hrec]; rfl
  have htm : ∀ st pe, (rec st pe).tmps = a.tmps := by intro st pe; rw [← hrec]; rfl
  have has : ∀ st pe, (rec st pe).assign = assign := by intro st pe; rw [← hrec]; rfl
  have hbd : ∀ st pe, (rec st pe).body = body := by intro st pe; rw [← hrec]; rfl
  have hst : ∀ st pe, (rec st pe).state = st := by intro st pe; rw [← hrec]; rfl
  have hpe : ∀ st pe, (rec st pe).pending = pe := by intro st pe; rw [← hrec]; rfl
  have hset : ∀ st pe st', { rec st pe with state := st' } = rec st' pe := by intro st pe st'; rw [← hrec]; rfl
  have hset2 : ∀ st pe st' pe', { rec st pe with state := st', pending := pe' } = rec st' pe' := by intro st pe st' pe'; rw [← hrec]; rfl
  obtain ⟨W1, hW1⟩ : ∃ W1, (w.alloc (.deferred (some []))).alloc (.loop (rec .ready none)) = W1 := ⟨_, rfl⟩
  have hsz : W1.heap.size = D + 2 := by rw [← hW1, ← hD]; simp
  have hL1 : W1.heap[D + 1]? = some (.loop (rec .ready none)) := by
    rw [← hW1, ← hD]
    have := World.alloc_heap_new (w.alloc (.deferred (some []))) (.loop (rec .ready none))
    rwa [World.size_alloc] at this
  have hK1 : W1.heap[D]? = some (.deferred (some [])) := by
    rw [← hW1, ← hD]; exact (Below.heap_alloc _ _ _ (by simp)).trans (World.alloc_heap_new w _)
  have hI1 : I [] W1 := by rw [← hW1]; exact hI.alloc _ (hI.alloc _ h0)
  have hb1 : Below w0.heap.size w0 W1 := by
    rw [← hW1]; exact hb0.trans ((((Below.refl _ w).alloc (Nat.le_refl _) _).alloc (by simp) _).mono hb0.size)
  rw [hD] at hI hIx hn₀
  -- what the iterator must carry from round to round
  have keeps : ∀ {A B : World} {row : Option Nat} {k : Nat} {o : Obj}, A.grownBy B row → (∀ r, row = some r → W1.heap.size ≤ r ∧ ∃ o : Obj, A.heap[r]? = some o ∧ o.isCells = false) → k < D + 2 → A.heap[k]? = some o → B.heap[k]? = some o := by
    intro A B row k o hg' hr hk hAk
    refine (hg'.block k (Array.getElem?_eq_some_iff.1 hAk).1 (fun e => ?_)).trans hAk
    have := (hr k e.symm).1
    omega
  have low : ∀ {A : World} {row : Option Nat}, (∀ r, row = some r → W1.heap.size ≤ r ∧ ∃ o : Obj, A.heap[r]? = some o ∧ o.isCells = false) → (∀ r, row = some r → D ≤ r ∧ ∃ o : Obj, A.heap[r]? = some o ∧ o.isCells = false) := by
    intro A row hr r e
    exact ⟨by have := (hr r e).1; omega, (hr r e).2⟩
  refine ⟨D + 1, [{ target := .collected D, args := #[] }], W1, { target := .fn (.func gf) lb, args := #[.func (.yield (D + 1)) #[] #[]] }, W1, gf,
    #[.func (.yield (D + 1)) #[] #[]] ++ lb, W1, ?_, ?_, ?_, ?_, fun h => (by cases h), ?_⟩
  · rw [← hW1, ← hrec, ← hD]; exact run_enterLoop_outer _ _ _ _ _
  · simp only [resolve, hg]
    simp [go_sem]
  · intro f' hf'; trivial
  · simp [invoke, go_sem, eg]
  · refine calls_room (m := 0) ?_
    refine (hseq (D + 1)
      (fun pre W => I pre W ∧ W.heap[D + 1]? = some (.loop (rec .ready none)) ∧ W.heap[D]? = some (.deferred (some [])))
      (fun pre W => ∃ c, Ix c pre W ∧ W.heap[D + 1]? = some (.loop (rec .done (some c))) ∧ W.heap[D]? = some (.deferred (some [])))
      W1 hb1
      (fun s A B row hs hg' hr => ⟨hI s A B row hs.1 hg' (low hr), keeps hg' hr (by omega) hs.2.1, keeps hg' hr (by omega) hs.2.2⟩)
      (fun s A B row hs hg' hr => by
        obtain ⟨c, hc, hl, hk⟩ := hs
        exact ⟨c, hIx c s A B row hc hg' (low hr), keeps hg' hr (by omega) hl, keeps hg' hr (by omega) hk⟩)
      ?_ ⟨hI1, hL1, hK1⟩).mono ?_
    · rintro pre x W ⟨hi, hl, hk⟩ hpre
      have hlt : D + 1 < W.heap.size := (Array.getElem?_eq_some_iff.1 hl).1
      have hy := run_yield (P := P) (args := #[enc x]) hl (by rw [hpar]; simp [hps])
      rw [hpar, hfnr, htm, has, hbd] at hy
      refine ⟨fn, _, assign, body, hy, round_any (m := n - 1 - 1) (roundIn_of_wpIn hfn (hassign _ x W _ ⟨_, run_beginRound hl (hst _ _), ?_⟩))⟩
      rw [hset]
      have hl2 : (W.putObj (D + 1) (.loop (rec .busy none))).heap[D + 1]? = some (.loop (rec .busy none)) := World.putObj_heap_same hlt
      have hk2 : (W.putObj (D + 1) (.loop (rec .busy none))).heap[D]? = some (.deferred (some [])) := (World.putObj_heap_other (by omega)).trans hk
      have hi2 : I pre (W.putObj (D + 1) (.loop (rec .busy none))) := hI.putObj _ hi (by omega) hl rfl
      have hw2 : Kp n₀ e W1.heap.size W (W.putObj (D + 1) (.loop (rec .busy none))) := kp_put (by omega) (by omega) hl
      have hbody' := hbody (D + 1) pre x _ hi2 hpre
      rw [hD] at hbody'
      refine wpIn_mono hbody' ?_
      have fin : ∀ (jump : Option Code) (W3 : World), Kp n₀ e D (W.putObj (D + 1) (.loop (rec .busy none))) W3 →
          (Instr.endRound (D + 1) jump).run P W3 = .ok (.bool jump.isNone) (W3.putObj (D + 1) (.loop (rec (if jump.isNone then .ready else .done) jump))) ∧
          W3.heap[D + 1]? = some (.loop (rec .busy none)) ∧
          (W3.putObj (D + 1) (.loop (rec (if jump.isNone then .ready else .done) jump))).heap[D + 1]? = some (.loop (rec (if jump.isNone then .ready else .done) jump)) ∧
          (W3.putObj (D + 1) (.loop (rec (if jump.isNone then .ready else .done) jump))).heap[D]? = some (.deferred (some [])) := by
        intro jump W3 hk3
        have hl3 := hk3.keep _ _ (by omega) hl2 (fun _ _ h => by cases h)
        have hr3 := run_endRound (P := P) jump hl3
        rw [hset2] at hr3
        exact ⟨hr3, hl3, World.putObj_heap_same (Array.getElem?_eq_some_iff.1 hl3).1, (World.putObj_heap_other (by omega)).trans (hk3.keep _ _ (Nat.le_refl _) hk2 (fun _ _ h => by cases h))⟩
      rintro ex a3 W3 hp
      cases ex with
      | normal =>
        obtain ⟨hk3, hi3⟩ := hp
        obtain ⟨hr, hl3, hl4, hk4⟩ := fin none W3 hk3
        exact ⟨_, _, hr, .inl ⟨rfl, ⟨hI.putObj _ hi3 (by omega) hl3 rfl, hl4, hk4⟩, (hw2.trans (hk3.later (by omega))).trans (kp_put (by omega) (by omega) hl3)⟩⟩
      | ret =>
        obtain ⟨hk3, hi3⟩ := hp
        obtain ⟨hr, hl3, hl4, hk4⟩ := fin (some .ret) W3 hk3
        exact ⟨_, _, hr, .inr ⟨rfl, ⟨.ret, (hIx _).putObj _ hi3 (by omega) hl3 rfl, hl4, hk4⟩, (hw2.trans (hk3.later (by omega))).trans (kp_put (by omega) (by omega) hl3)⟩⟩
      | exit id =>
        obtain ⟨hk3, hi3⟩ := hp
        obtain ⟨hr, hl3, hl4, hk4⟩ := fin (some (.exit id)) W3 hk3
        exact ⟨_, _, hr, .inr ⟨rfl, ⟨.exit id, (hIx _).putObj _ hi3 (by omega) hl3 rfl, hl4, hk4⟩, (hw2.trans (hk3.later (by omega))).trans (kp_put (by omega) (by omega) hl3)⟩⟩
      | goto t =>
        obtain ⟨hk3, hi3⟩ := hp
        obtain ⟨hr, hl3, hl4, hk4⟩ := fin (some (.goto t)) W3 hk3
        exact ⟨_, _, hr, .inr ⟨rfl, ⟨.goto t, (hIx _).putObj _ hi3 (by omega) hl3 rfl, hl4, hk4⟩, (hw2.trans (hk3.later (by omega))).trans (kp_put (by omega) (by omega) hl3)⟩⟩
      | panic ch => exact hp.elim
      | outgrown => exact hp.elim
    · rintro ex W2 ⟨⟨v, rfl⟩, (⟨hi, hl, hk⟩ | ⟨pre, hpre, c, hi, hl, hk⟩)⟩
      · have hend := run_endLoop (P := P) hl (by rw [hst]; simp)
        rw [hset, hpe] at hend
        exact ⟨none, _, hend, hdone D _ (by omega) (hI.putObj _ hi (by omega) hl rfl) ((World.putObj_heap_other (by omega)).trans hk)⟩
      · have hend := run_endLoop (P := P) hl (by rw [hst]; simp)
        rw [hset, hpe] at hend
        exact ⟨some c, _, hend, hstop D c pre _ (by omega) hpre ((hIx c).putObj _ hi (by omega) hl rfl) ((World.putObj_heap_other (by omega)).trans hk)⟩
set_option maxHeartbeats 1000000 in
/-- .. with however many loop variables, which the assignment may lay in memory. -/
theorem range_walkH {α : Type} {P : Program} {n : Nat} {g : Operand} {ps : Array Tmp} {assign body : Code} {Q : Exit → Act → World → Prop} {a : Act} {w : World}
    {gf : Nat} {lb : Array Value} (hg : a.eval g = .func (.func gf) #[] lb) (eg : ∀ args w, (callFunc gf args).run P w = .ok (.enter gf args) w)
    {encs : α → Array Value} {n₀ : Nat} {e : TypeId} {xs : List α} {w0 : World} {X : World → Prop} (hseq : SeqX P gf lb encs n₀ e xs w0 X) (hb0 : Below w0.heap.size w0 w) (hn₀ : n₀ ≤ w.heap.size) (hps : ∀ x, ps.size = (encs x).size)
    (I : List α → World → Prop) (Ix : Code → List α → World → Prop) (hIX : ∀ pre W, I pre W → X W) (hI : OwnFrom w.heap.size I) (hIx : ∀ c, OwnFrom w.heap.size (Ix c)) (h0 : I [] w) (Ax : α → Act → World → Prop) (hAx : ∀ x a', OwnFrom w.heap.size (fun (_ : Unit) W => Ax x a' W))
    (hassign : ∀ (l : Nat) (pre : List α) (x : α) (W : World) (K : Act → World → Prop), I pre W → pre ++ [x] <+: xs → w.heap.size ≤ W.heap.size → (∀ a' W', Kp n₀ e w.heap.size W W' → I pre W' → Ax x a' W' → K a' W') →
      assign.wpIn (Fence.wide.inRound l) (n - 1 - 1) P (Exit.then K (fun _ _ _ => False)) { tmps := (ps.zip (encs x)).foldl (fun t (p, v) => t.setIfInBounds p v) a.tmps, defers := [] } W)
    (hbody : ∀ (l : Nat) (pre : List α) (x : α) (a' : Act) (W : World), I pre W → Ax x a' W → pre ++ [x] <+: xs → body.wpIn (Fence.wide.inRound l) (n - 1 - 1) P (rgPost w.heap.size n₀ e I Ix (pre ++ [x]) W) a' W)
    (hdone : ∀ (D : Nat) (W : World), w.heap.size ≤ D → I xs W → W.heap[D]? = some (.deferred (some [])) → Q .normal { a with defers := { target := .collected D, args := #[] } :: a.defers } W)
    (hstop : ∀ (D : Nat) (c : Code) (pre : List α) (W : World), w.heap.size ≤ D → pre <+: xs → Ix c pre W → W.heap[D]? = some (.deferred (some [])) → c.wpIn Fence.wide n P Q { a with defers := { target := .collected D, args := #[] } :: a.defers } W) :
    (Code.rangeFunc g ps assign body).wpIn Fence.wide n P Q a w := by
  refine wpIn_rangeFunc fun fn hfn => ?_
  obtain ⟨D, hD⟩ : ∃ D, w.heap.size = D := ⟨_, rfl⟩
  obtain ⟨rec, hrec⟩ : ∃ rec, rgRec fn a.tmps ps assign body D = rec := ⟨_, rfl⟩
  have hpar : ∀ st pe, (rec st pe).params = ps := by intro st pe; rw [← hrec]; rfl
  have hfnr : ∀ st pe, (rec st pe).fn = fn := by intro st pe; rw [← hrec]; rfl
  have htm : ∀ st pe, (rec st pe).tmps = a.tmps := by intro st pe; rw [← hrec]; rfl
  have has : ∀ st pe, (rec st pe).assign = assign := by intro st pe; rw [← hrec]; rfl
  have hbd : ∀ st pe, (rec st pe).body = body := by intro st pe; rw [← hrec]; rfl
  have hst : ∀ st pe, (rec st pe).state = st := by intro st pe; rw [← hrec]; rfl
  have hpe : ∀ st pe, (rec st pe).pending = pe := by intro st pe; rw [← hrec]; rfl
  have hset : ∀ st pe st', { rec st pe with state := st' } = rec st' pe := by intro st pe st'; rw [← hrec]; rfl
  have hset2 : ∀ st pe st' pe', { rec st pe with state := st', pending := pe' } = rec st' pe' := by intro st pe st' pe'; rw [← hrec]; rfl
  obtain ⟨W1, hW1⟩ : ∃ W1, (w.alloc (.deferred (some []))).alloc (.loop (rec .ready none)) = W1 := ⟨_, rfl⟩
  have hsz : W1.heap.size = D + 2 := by rw [← hW1, ← hD]; simp
  have hL1 : W1.heap[D + 1]? = some (.loop (rec .ready none)) := by
    rw [← hW1, ← hD]
    have := World.alloc_heap_new (w.alloc (.deferred (some []))) (.loop (rec .ready none))
    rwa [World.size_alloc] at this
  have hK1 : W1.heap[D]? = some (.deferred (some [])) := by
    rw [← hW1, ← hD]; exact (Below.heap_alloc _ _ _ (by simp)).trans (World.alloc_heap_new w _)
  have hI1 : I [] W1 := by rw [← hW1]; exact hI.alloc _ (hI.alloc _ h0)
  have hb1 : Below w0.heap.size w0 W1 := by
    rw [← hW1]; exact hb0.trans ((((Below.refl _ w).alloc (Nat.le_refl _) _).alloc (by simp) _).mono hb0.size)
  rw [hD] at hI hIx hn₀ hAx
  -- what the iterator must carry from round to round
  have keeps : ∀ {A B : World} {row : Option Nat} {k : Nat} {o : Obj}, A.grownBy B row → (∀ r, row = some r → W1.heap.size ≤ r ∧ ∃ o : Obj, A.heap[r]? = some o ∧ o.isCells = false) → k < D + 2 → A.heap[k]? = some o → B.heap[k]? = some o := by
    intro A B row k o hg' hr hk hAk
    refine (hg'.block k (Array.getElem?_eq_some_iff.1 hAk).1 (fun e => ?_)).trans hAk
    have := (hr k e.symm).1
    omega
  have low : ∀ {A : World} {row : Option Nat}, (∀ r, row = some r → W1.heap.size ≤ r ∧ ∃ o : Obj, A.heap[r]? = some o ∧ o.isCells = false) → (∀ r, row = some r → D ≤ r ∧ ∃ o : Obj, A.heap[r]? = some o ∧ o.isCells = false) := by
    intro A row hr r e
    exact ⟨by have := (hr r e).1; omega, (hr r e).2⟩
  refine ⟨D + 1, [{ target := .collected D, args := #[] }], W1, { target := .fn (.func gf) lb, args := #[.func (.yield (D + 1)) #[] #[]] }, W1, gf,
    #[.func (.yield (D + 1)) #[] #[]] ++ lb, W1, ?_, ?_, ?_, ?_, fun h => (by cases h), ?_⟩
  · rw [← hW1, ← hrec, ← hD]; exact run_enterLoop_outer _ _ _ _ _
  · simp only [resolve, hg]
    simp [go_sem]
  · intro f' hf'; trivial
  · simp [invoke, go_sem, eg]
  · refine calls_room (m := 0) ?_
    refine (hseq (D + 1)
      (fun pre W => I pre W ∧ W.heap[D + 1]? = some (.loop (rec .ready none)) ∧ W.heap[D]? = some (.deferred (some [])))
      (fun pre W => ∃ c, Ix c pre W ∧ W.heap[D + 1]? = some (.loop (rec .done (some c))) ∧ W.heap[D]? = some (.deferred (some [])))
      W1 hb1
      (fun s A B row hs hg' hr => ⟨hI s A B row hs.1 hg' (low hr), keeps hg' hr (by omega) hs.2.1, keeps hg' hr (by omega) hs.2.2⟩)
      (fun s A B row hs hg' hr => by
        obtain ⟨c, hc, hl, hk⟩ := hs
        exact ⟨c, hIx c s A B row hc hg' (low hr), keeps hg' hr (by omega) hl, keeps hg' hr (by omega) hk⟩)
      (fun pre W h => hIX pre W h.1)
      ?_ ⟨hI1, hL1, hK1⟩).mono ?_
    · rintro pre x W ⟨hi, hl, hk⟩ hpre
      have hlt : D + 1 < W.heap.size := (Array.getElem?_eq_some_iff.1 hl).1
      have hy := run_yield (P := P) (args := encs x) hl (by rw [hpar]; exact (hps x).symm)
      rw [hpar, hfnr, htm, has, hbd] at hy
      refine ⟨fn, _, assign, body, hy, round_any (m := n - 1 - 1) (roundIn_of_wpIn hfn (hassign _ pre x W _ hi hpre (by omega) ?_))⟩
      intro a' Wa hka hia hax
      rw [hD] at hka
      have hla : Wa.heap[D + 1]? = some (.loop (rec .ready none)) := hka.keep _ _ (by omega) hl (fun _ _ h => by cases h)
      have hkD : Wa.heap[D]? = some (.deferred (some [])) := hka.keep _ _ (Nat.le_refl _) hk (fun _ _ h => by cases h)
      have hlta : D + 1 < Wa.heap.size := (Array.getElem?_eq_some_iff.1 hla).1
      refine ⟨_, run_beginRound hla (hst _ _), ?_⟩
      rw [hset]
      have hl2 : (Wa.putObj (D + 1) (.loop (rec .busy none))).heap[D + 1]? = some (.loop (rec .busy none)) := World.putObj_heap_same hlta
      have hk2 : (Wa.putObj (D + 1) (.loop (rec .busy none))).heap[D]? = some (.deferred (some [])) := (World.putObj_heap_other (by omega)).trans hkD
      have hi2 : I pre (Wa.putObj (D + 1) (.loop (rec .busy none))) := hI.putObj _ hia (by omega) hla rfl
      have hax2 : Ax x a' (Wa.putObj (D + 1) (.loop (rec .busy none))) := (hAx x a').putObj (s := ()) _ hax (by omega) hla rfl
      have hw2 : Kp n₀ e W1.heap.size W (Wa.putObj (D + 1) (.loop (rec .busy none))) := (hka.later (by omega)).trans (kp_put (by omega) (by omega) hla)
      have hbody' := hbody (D + 1) pre x a' _ hi2 hax2 hpre
      rw [hD] at hbody'
      refine wpIn_mono hbody' ?_
      have fin : ∀ (jump : Option Code) (W3 : World), Kp n₀ e D (Wa.putObj (D + 1) (.loop (rec .busy none))) W3 →
          (Instr.endRound (D + 1) jump).run P W3 = .ok (.bool jump.isNone) (W3.putObj (D + 1) (.loop (rec (if jump.isNone then .ready else .done) jump))) ∧
          W3.heap[D + 1]? = some (.loop (rec .busy none)) ∧
          (W3.putObj (D + 1) (.loop (rec (if jump.isNone then .ready else .done) jump))).heap[D + 1]? = some (.loop (rec (if jump.isNone then .ready else .done) jump)) ∧
          (W3.putObj (D + 1) (.loop (rec (if jump.isNone then .ready else .done) jump))).heap[D]? = some (.deferred (some [])) := by
        intro jump W3 hk3
        have hl3 := hk3.keep _ _ (by omega) hl2 (fun _ _ h => by cases h)
        have hr3 := run_endRound (P := P) jump hl3
        rw [hset2] at hr3
        exact ⟨hr3, hl3, World.putObj_heap_same (Array.getElem?_eq_some_iff.1 hl3).1, (World.putObj_heap_other (by omega)).trans (hk3.keep _ _ (Nat.le_refl _) hk2 (fun _ _ h => by cases h))⟩
      rintro ex a3 W3 hp
      cases ex with
      | normal =>
        obtain ⟨hk3, hi3⟩ := hp
        obtain ⟨hr, hl3, hl4, hk4⟩ := fin none W3 hk3
        exact ⟨_, _, hr, .inl ⟨rfl, ⟨hI.putObj _ hi3 (by omega) hl3 rfl, hl4, hk4⟩, (hw2.trans (hk3.later (by omega))).trans (kp_put (by omega) (by omega) hl3)⟩⟩
      | ret =>
        obtain ⟨hk3, hi3⟩ := hp
        obtain ⟨hr, hl3, hl4, hk4⟩ := fin (some .ret) W3 hk3
        exact ⟨_, _, hr, .inr ⟨rfl, ⟨.ret, (hIx _).putObj _ hi3 (by omega) hl3 rfl, hl4, hk4⟩, (hw2.trans (hk3.later (by omega))).trans (kp_put (by omega) (by omega) hl3)⟩⟩
      | exit id =>
        obtain ⟨hk3, hi3⟩ := hp
        obtain ⟨hr, hl3, hl4, hk4⟩ := fin (some (.exit id)) W3 hk3
        exact ⟨_, _, hr, .inr ⟨rfl, ⟨.exit id, (hIx _).putObj _ hi3 (by omega) hl3 rfl, hl4, hk4⟩, (hw2.trans (hk3.later (by omega))).trans (kp_put (by omega) (by omega) hl3)⟩⟩
      | goto t =>
        obtain ⟨hk3, hi3⟩ := hp
        obtain ⟨hr, hl3, hl4, hk4⟩ := fin (some (.goto t)) W3 hk3
        exact ⟨_, _, hr, .inr ⟨rfl, ⟨.goto t, (hIx _).putObj _ hi3 (by omega) hl3 rfl, hl4, hk4⟩, (hw2.trans (hk3.later (by omega))).trans (kp_put (by omega) (by omega) hl3)⟩⟩
      | panic ch => exact hp.elim
      | outgrown => exact hp.elim
    · rintro ex W2 ⟨⟨v, rfl⟩, (⟨hi, hl, hk⟩ | ⟨pre, hpre, c, hi, hl, hk⟩)⟩
      · have hend := run_endLoop (P := P) hl (by rw [hst]; simp)
        rw [hset, hpe] at hend
        exact ⟨none, _, hend, hdone D _ (by omega) (hI.putObj _ hi (by omega) hl rfl) ((World.putObj_heap_other (by omega)).trans hk)⟩
      · have hend := run_endLoop (P := P) hl (by rw [hst]; simp)
        rw [hset, hpe] at hend
        exact ⟨some c, _, hend, hstop D c pre _ (by omega) hpre ((hIx c).putObj _ hi (by omega) hl rfl) ((World.putObj_heap_other (by omega)).trans hk)⟩
/-- The marks that loops over functions have left among the deferred calls: their blocks, the latest first, all from lo on. -/
def Marks (lo : Nat) : List Deferred → Nat → World → Prop
  | [], _, _ => True
  | d :: ds, ub, W => ∃ D, D < ub ∧ lo ≤ D ∧ d = { target := .collected D, args := #[] } ∧ W.heap[D]? = some (.deferred (some [])) ∧ Marks lo ds D W
theorem Marks.kept {lo : Nat} {A B : World} : ∀ {ds : List Deferred} {ub : Nat}, Marks lo ds ub A → (∀ (b : Nat) (o : Obj), lo ≤ b → b < ub → A.heap[b]? = some o → o.isCells = false → B.heap[b]? = some o) → Marks lo ds ub B
  | [], _, _, _ => trivial
  | _ :: _, _, ⟨D, hD, hlo, he, hk, hr⟩, h => ⟨D, hD, hlo, he, h D _ hlo hD hk rfl, hr.kept fun b o h1 h2 => h b o h1 (by omega)⟩
theorem Marks.le {lo : Nat} {A : World} : ∀ {ds : List Deferred} {ub ub' : Nat}, Marks lo ds ub A → ub ≤ ub' → Marks lo ds ub' A
  | [], _, _, _, _ => trivial
  | _ :: _, _, _, ⟨D, hD, h⟩, hu => ⟨D, by omega, h⟩
/-- A function leaves with nothing but marks among its deferred calls. -/
theorem leave_marks {P : Program} {n : Nat} {fn : Func} {tmps : Array Value} {R : Ending → World → Prop} {lo : Nat} {Z : World → Prop}
    (hZ : ∀ (W : World) (l : Nat) (o o' : Obj), lo ≤ l → W.heap[l]? = some o → o.isCells = false → Z W → Z (W.putObj l o'))
    (hR : ∀ W, Z W → LeavesInM Fence.wide n P fn tmps R [] .returning W) :
    ∀ (ds : List Deferred) (ub : Nat) (W : World), Marks lo ds ub W → Z W → LeavesInM Fence.wide n P fn tmps R ds .returning W := by
  intro ds
  induction ds with
  | nil => intro ub W _ hz; exact hR W hz
  | cons d ds ih =>
    rintro ub W ⟨D, hD, hlo, rfl, hk, hr⟩ hz
    refine ⟨by simp, .inl ⟨D, _, rfl, run_takeDeferred hk, ih D _ (hr.kept fun b o _ h2 hb _ => ?_) (hZ W D _ _ hlo hk rfl hz)⟩⟩
    exact (World.putObj_heap_other (by omega)).trans hb
theorem ownFrom_mono {β : Type} {B B' : Nat} {I : β → World → Prop} (h : OwnFrom B I) (hb : B ≤ B') : OwnFrom B' I :=
  fun s W W' row hs hg hr => h s W W' row hs hg fun r e => ⟨Nat.le_trans hb (hr r e).1, (hr r e).2⟩
end Go.Proofs.YtfdlmgjjpcdkpaaDoor
