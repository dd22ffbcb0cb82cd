/- A range over a function that keeps cells of its own between the rounds: what is private to it is told from what its caller lays. -/
import Derived.Test.YtfdlmgjjpcdkpaaDoorGg
import Derived.Test.YtfdlmgjjpcdkpaaDoorSr
namespace Go.Proofs.YtfdlmgjjpcdkpaaDoor
open Go.RowKit

theorem wpListIn_append_at {F : Fence} {n : Nat} {P : Program} (w : World) {ops : Array Oper} {rest : List Oper} {o : Oper} {a : Act} {Q : Exit → Act → World → Prop}
    (hg : o.guard = none) (s x : Operand) (t : TypeId) (hop : o.op = Op.call { callee := Callee.builtin Builtin.append, args := #[s, x], argTypes := #[t, t] })
    (base : Nat) (e : TypeId) (i : TypeInfo) (z : Value) (size bytes : Nat) (h1 : P.underlying t = some (.slice e)) (h2 : P.info? e = some i) (h3 : i.zero = some z) (h4 : i.size = size) (h5 : i.bytes = bytes) (h6 : z.cells.size = size) (h7 : 0 < size)
    (v : Value) (k : Nat) (xs : List Value) (hs : a.eval s = v) (hown : w.ownsRow base e size v k xs) (ad : Addr) (m c : Nat) (news : List Value) (hx : a.eval x = .slice (some ad) m c) (hn : news.length = m * size)
    (hc : ∀ j u, news[j]? = some u → w.cell? (ad.add j) = some u) (h1c : ∀ u ∈ news, u.oneCell' = true) (b1 : k + m ≤ maxLen) (b2 : (k + m) * bytes ≤ 140737488355328) (b3 : base ≤ w.heap.size)
    (hK : ∀ v' w', w'.ownsRow base e size v' (k + m) (xs ++ news) → w.grownBy w' v.ownBlock → (v'.ownBlock = v.ownBlock ∨ v'.ownBlock = some w.heap.size) → wpListIn F n P ops Q rest (a.put o.dst v') w') :
    wpListIn F n P ops Q (o :: rest) a w := by
  refine wpListIn_plain hg fun K hK' => ?_
  obtain ⟨v', w', hrun, r1, r2, _, r4⟩ := run_append_own_at (P := P) w base t o.type e i z size bytes h1 h2 h3 h4 h5 h6 h7 v k xs hown ad m c news hn hc h1c b1 b2 b3
  unfold Oper.wpIn
  refine ⟨?_, ?_⟩
  · simp [Oper.about, hop, resolve, Target.leads, Sem.run_pure]
  · rw [Oper.semAt_plain F _ _ (by rw [hop]; intro c hc'; cases hc')]
    simp [execOp, hop, resolve, invoke, builtin, hs, hx, hrun, Result.andThen]
    exact hK' _ _ (hK v' w' r1 r2 r4)

/-- A step that leaves all as it lies but what is private, and what is no cells from base on. -/
structure ChgG (base : Nat) (S : Nat → Prop) (A B : World) : Prop where
  os : B.os = A.os
  tape : B.tape = A.tape
  output : B.output = A.output
  size : A.heap.size ≤ B.heap.size
  keep : ∀ (b : Nat) (o : Obj), A.heap[b]? = some o → ¬ S b → (b < base ∨ o.isCells = true) → B.heap[b]? = some o
theorem ChgG.low {base base' : Nat} {S : Nat → Prop} {A B : World} (h : ChgG base S A B) (hb : base' ≤ base) : ChgG base' S A B :=
  ⟨h.os, h.tape, h.output, h.size, fun b o ho hs hc => h.keep b o ho hs (hc.imp (fun h => by omega) id)⟩
theorem ChgG.of_grown {base : Nat} {S : Nat → Prop} {A B : World} {row : Option Nat} (h : A.grownBy B row) (hr : ∀ r, row = some r → S r ∨ (base ≤ r ∧ ∃ o : Obj, A.heap[r]? = some o ∧ o.isCells = false)) : ChgG base S A B :=
  ⟨h.os, h.tape, h.output, h.size, fun b o ho hs hb => by
    refine (h.block b (Array.getElem?_eq_some_iff.1 ho).1 (fun e => ?_)).trans ho
    rcases hr b e.symm with h1 | ⟨h1, o', h2, h3⟩
    · exact hs h1
    · rw [ho] at h2
      cases h2
      rcases hb with hb | hb
      · omega
      · rw [hb] at h3; cases h3⟩
theorem ChgG.cells {base : Nat} {S : Nat → Prop} {A B : World} (h : ChgG base S A B) {b : Nat} {t : TypeId} {v : Value} (hv : Boxed A b t v) (hs : ¬ S b) : Boxed B b t v := h.keep b _ hv hs (.inr rfl)
theorem ChgG.row {base : Nat} {S : Nat → Prop} {A B : World} (h : ChgG base S A B) {lo n : Nat} {e : TypeId} {v : Value} {l : List Value} (hr : A.ownsRow lo e 1 v n l) (hs : ∀ k, v.ownBlock = some k → ¬ S k) : B.ownsRow lo e 1 v n l := by
  refine ⟨hr.1, ?_⟩
  rcases hr.2 with h1 | ⟨g, cap, cur, rfl, hb, hg, h2⟩
  · exact .inl h1
  · exact .inr ⟨g, cap, cur, rfl, hb, h.keep g _ hg (hs g rfl) (.inr rfl), h2⟩
/-- An invariant abides such steps. -/
def OwnG {β : Type} (base : Nat) (J : β → (Nat → Prop) → World → Prop) : Prop :=
  ∀ s S A B S', J s S A → ChgG base S A B → (∀ b, S' b → S b ∨ A.heap.size ≤ b) → J s S' B
theorem OwnG.alloc {β : Type} {base : Nat} {J : β → (Nat → Prop) → World → Prop} (h : OwnG base J) {s : β} {S : Nat → Prop} {W : World} (o : Obj) (hs : J s S W) : J s S (W.alloc o) :=
  h s S W _ S hs (ChgG.of_grown (World.grownBy_alloc W o none) (fun r e => by cases e)) (fun _ hb => .inl hb)
theorem OwnG.putObj {β : Type} {base : Nat} {J : β → (Nat → Prop) → World → Prop} (h : OwnG base J) {s : β} {S : Nat → Prop} {W : World} {l : Nat} {o : Obj} (o' : Obj) (hs : J s S W) (hB : base ≤ l) (hl : W.heap[l]? = some o) (ho : o.isCells = false) : J s S (W.putObj l o') :=
  h s S W _ S hs (ChgG.of_grown (grownBy_putObj' W l o') (fun r e => by cases e; exact .inr ⟨hB, o, hl, ho⟩)) (fun _ hb => .inl hb)
theorem OwnG.up {β : Type} {base : Nat} {J : β → (Nat → Prop) → World → Prop} (h : OwnG base J) {s : β} {S : Nat → Prop} {A B : World} (hu : Up A B) (hs : J s S A) : J s S B :=
  h s S A B S hs (ChgG.of_grown (up_grown hu) (fun r e => by cases e)) (fun _ hb => .inl hb)

/-- The function value gf yields xs, keeps cells of its own (S) between the rounds, which leave those alone, and stops when a round says so. -/
def SeqG {α : Type} (P : Program) (gf : Nat) (lb : Array Value) (encs : α → Array Value) (n₀ : Nat) (e : TypeId) (xs : List α) (w : World) (X : World → Prop) : Prop :=
  ∀ (l : Nat) (J Jx : List α → (Nat → Prop) → World → Prop) (W : World), Below w.heap.size w W → OwnG W.heap.size J → OwnG W.heap.size Jx → (∀ pre S W1, J pre S W1 → X W1) →
    (∀ pre x S W1, J pre S W1 → (∀ b, S b → W.heap.size ≤ b ∧ b < W1.heap.size) → pre ++ [x] <+: xs → YieldAt Fence.wide 0 P l (encs x) W1 fun d W' =>
      Kp n₀ e W.heap.size W1 W' ∧ (∀ b, S b → W'.heap[b]? = W1.heap[b]?) ∧ ((d = .returned (.bool true) ∧ J (pre ++ [x]) S W') ∨ (d = .returned (.bool false) ∧ Jx (pre ++ [x]) S W'))) →
    J [] (fun _ => False) W →
    CallsIn Fence.wide 0 P gf (#[.func (.yield l) #[] #[]] ++ lb) W fun d W' => (∃ v, d = .returned v) ∧ ((∃ S, J xs S W') ∨ ∃ pre S, pre <+: xs ∧ Jx pre S W')
/-- How a round's body may be left. -/
def rgPostG {α : Type} (B n₀ : Nat) (e : TypeId) (I : List α → (Nat → Prop) → World → Prop) (Ix : Code → List α → (Nat → Prop) → World → Prop) (xs : List α) (S : Nat → Prop) (W : World) : Exit → Act → World → Prop
  | .normal, _, W' => Kp n₀ e B W W' ∧ (∀ b, S b → W'.heap[b]? = W.heap[b]?) ∧ I xs S W'
  | .ret, _, W' => Kp n₀ e B W W' ∧ (∀ b, S b → W'.heap[b]? = W.heap[b]?) ∧ Ix .ret xs S W'
  | .exit id, _, W' => Kp n₀ e B W W' ∧ (∀ b, S b → W'.heap[b]? = W.heap[b]?) ∧ Ix (.exit id) xs S W'
  | .goto t, _, W' => Kp n₀ e B W W' ∧ (∀ b, S b → W'.heap[b]? = W.heap[b]?) ∧ Ix (.goto t) xs S W'
  | .panic _, _, _ => False
  | .outgrown, _, _ => False
set_option maxHeartbeats 1000000 in
/-- The statement 'for x := range g { .. }' outside of every round, over an iterator that keeps cells of its own. -/
theorem range_walkG {α : Type} {P : Program} {n : Nat} {g : Operand} {ps : Array Tmp} {assign body : Code} {Q : Exit → Act → World → Prop} {a : Act} {w : World}
    {gf : Nat} {lb : Array Value} (hg : a.eval g = .func (.func gf) #[] lb) (eg : ∀ args w, (callFunc gf args).run P w = .ok (.enter gf args) w)
    {enc : α → Value} {n₀ : Nat} {e : TypeId} {xs : List α} {w0 : World} {X : World → Prop} (hseq : SeqG P gf lb (fun x => #[enc x]) n₀ e xs w0 X) (hb0 : Below w0.heap.size w0 w) (hn₀ : n₀ ≤ w.heap.size) (hps : ps.size = 1)
    (I : List α → (Nat → Prop) → World → Prop) (Ix : Code → List α → (Nat → Prop) → World → Prop) (hIX : ∀ pre S W, I pre S W → X W) (hI : OwnG w.heap.size I) (hIx : ∀ c, OwnG w.heap.size (Ix c)) (h0 : I [] (fun _ => False) w) (a₁ : α → Act)
    (hassign : ∀ (l : Nat) (x : α) (W : World) (K : Act → World → Prop), K (a₁ x) W →
      assign.wpIn (Fence.wide.inRound l) (n - 1 - 1) P (Exit.then K (fun _ _ _ => False)) { tmps := (ps.zip #[enc x]).foldl (fun t (p, v) => t.setIfInBounds p v) a.tmps, defers := [] } W)
    (hbody : ∀ (l : Nat) (pre : List α) (x : α) (S : Nat → Prop) (W : World), I pre S W → (∀ b, S b → w.heap.size ≤ b ∧ b < W.heap.size) → pre ++ [x] <+: xs → body.wpIn (Fence.wide.inRound l) (n - 1 - 1) P (rgPostG w.heap.size n₀ e I Ix (pre ++ [x]) S W) (a₁ x) W)
    (hdone : ∀ (D : Nat) (S : Nat → Prop) (W : World), w.heap.size ≤ D → I xs S W → W.heap[D]? = some (.deferred (some [])) → Q .normal { a with defers := { target := .collected D, args := #[] } :: a.defers } W)
    (hstop : ∀ (D : Nat) (c : Code) (pre : List α) (S : Nat → Prop) (W : World), w.heap.size ≤ D → pre <+: xs → Ix c pre S W → W.heap[D]? = some (.deferred (some [])) → c.wpIn Fence.wide n P Q { a with defers := { target := .collected D, args := #[] } :: a.defers } W) :
    (Code.rangeFunc g ps assign body).wpIn Fence.wide n P Q a w := by
  refine wpIn_rangeFunc fun fn hfn => ?_
  obtain ⟨D, hD⟩ : ∃ D, w.heap.size = D := ⟨_, rfl⟩
  obtain ⟨rec, hrec⟩ : ∃ rec, rgRec fn a.tmps ps assign body D = rec := ⟨_, rfl⟩
  have hpar : ∀ st pe, (rec st pe).params = ps := by intro st pe; rw [← hrec]; rfl
  have hfnr : ∀ st pe, (rec st pe).fn = fn := by intro st pe; rw [← hrec]; rfl
  have htm : ∀ st pe, (rec st pe).tmps = a.tmps := by intro st pe; rw [← hrec]; rfl
  have has : ∀ st pe, (rec st pe).assign = assign := by intro st pe; rw [← hrec]; rfl
  have hbd : ∀ st pe, (rec st pe).body = body := by intro st pe; rw [← hrec]; rfl
  have hst : ∀ st pe, (rec st pe).state = st := by intro st pe; rw [← hrec]; rfl
  have hpe : ∀ st pe, (rec st pe).pending = pe := by intro st pe; rw [← hrec]; rfl
  have hset : ∀ st pe st', { rec st pe with state := st' } = rec st' pe := by intro st pe st'; rw [← hrec]; rfl
  have hset2 : ∀ st pe st' pe', { rec st pe with state := st', pending := pe' } = rec st' pe' := by intro st pe st' pe'; rw [← hrec]; rfl
  obtain ⟨W1, hW1⟩ : ∃ W1, (w.alloc (.deferred (some []))).alloc (.loop (rec .ready none)) = W1 := ⟨_, rfl⟩
  have hsz : W1.heap.size = D + 2 := by rw [← hW1, ← hD]; simp
  have hL1 : W1.heap[D + 1]? = some (.loop (rec .ready none)) := by
    rw [← hW1, ← hD]
    have := World.alloc_heap_new (w.alloc (.deferred (some []))) (.loop (rec .ready none))
    rwa [World.size_alloc] at this
  have hK1 : W1.heap[D]? = some (.deferred (some [])) := by
    rw [← hW1, ← hD]; exact (Below.heap_alloc _ _ _ (by simp)).trans (World.alloc_heap_new w _)
  have hI1 : I [] (fun _ => False) W1 := by rw [← hW1]; exact hI.alloc _ (hI.alloc _ h0)
  have hb1 : Below w0.heap.size w0 W1 := by
    rw [← hW1]; exact hb0.trans ((((Below.refl _ w).alloc (Nat.le_refl _) _).alloc (by simp) _).mono hb0.size)
  rw [hD] at hI hIx hn₀
  -- what the iterator must carry from round to round
  have keeps : ∀ {S : Nat → Prop} {A B : World} {k : Nat} {o : Obj}, ChgG W1.heap.size S A B → (∀ b, S b → D + 2 ≤ b) → k < D + 2 → A.heap[k]? = some o → B.heap[k]? = some o :=
    fun h hS hk ho => h.keep _ _ ho (fun hs => by have := hS _ hs; omega) (.inl (by omega))
  have low : ∀ {S : Nat → Prop} {A B : World}, ChgG W1.heap.size S A B → ChgG D S A B := fun h => h.low (by omega)
  refine ⟨D + 1, [{ target := .collected D, args := #[] }], W1, { target := .fn (.func gf) lb, args := #[.func (.yield (D + 1)) #[] #[]] }, W1, gf,
    #[.func (.yield (D + 1)) #[] #[]] ++ lb, W1, ?_, ?_, ?_, ?_, fun h => (by cases h), ?_⟩
  · rw [← hW1, ← hrec, ← hD]; exact run_enterLoop_outer _ _ _ _ _
  · simp only [resolve, hg]
    simp [go_sem]
  · intro f' hf'; trivial
  · simp [invoke, go_sem, eg]
  · refine calls_room (m := 0) ?_
    refine (hseq (D + 1)
      (fun pre S W => I pre S W ∧ (∀ b, S b → D + 2 ≤ b) ∧ W.heap[D + 1]? = some (.loop (rec .ready none)) ∧ W.heap[D]? = some (.deferred (some [])))
      (fun pre S W => ∃ c, Ix c pre S W ∧ (∀ b, S b → D + 2 ≤ b) ∧ W.heap[D + 1]? = some (.loop (rec .done (some c))) ∧ W.heap[D]? = some (.deferred (some [])))
      W1 hb1
      (fun s S A B S' hs hc hS => ⟨hI s S A B S' hs.1 (low hc) hS, fun b hb => by
        rcases hS b hb with h | h
        · exact hs.2.1 b h
        · have := (Array.getElem?_eq_some_iff.1 hs.2.2.1).1; omega, keeps hc hs.2.1 (by omega) hs.2.2.1, keeps hc hs.2.1 (by omega) hs.2.2.2⟩)
      (fun s S A B S' hs hc hS => by
        obtain ⟨c, hcx, h1, h2, h3⟩ := hs
        exact ⟨c, hIx c s S A B S' hcx (low hc) hS, fun b hb => by
          rcases hS b hb with h | h
          · exact h1 b h
          · have := (Array.getElem?_eq_some_iff.1 h2).1; omega, keeps hc h1 (by omega) h2, keeps hc h1 (by omega) h3⟩)
      (fun pre S W h => hIX pre S W h.1)
      ?_ ⟨hI1, fun b hb => hb.elim, hL1, hK1⟩).mono ?_
    · rintro pre x S W ⟨hi, hSD, hl, hk⟩ hSb hpre
      have hlt : D + 1 < W.heap.size := (Array.getElem?_eq_some_iff.1 hl).1
      have hy := run_yield (P := P) (args := #[enc x]) hl (by rw [hpar]; simp [hps])
      rw [hpar, hfnr, htm, has, hbd] at hy
      refine ⟨fn, _, assign, body, hy, round_any (m := n - 1 - 1) (roundIn_of_wpIn hfn (hassign _ x W _ ⟨_, run_beginRound hl (hst _ _), ?_⟩))⟩
      rw [hset]
      have hl2 : (W.putObj (D + 1) (.loop (rec .busy none))).heap[D + 1]? = some (.loop (rec .busy none)) := World.putObj_heap_same hlt
      have hk2 : (W.putObj (D + 1) (.loop (rec .busy none))).heap[D]? = some (.deferred (some [])) := (World.putObj_heap_other (by omega)).trans hk
      have hi2 : I pre S (W.putObj (D + 1) (.loop (rec .busy none))) := hI.putObj _ hi (by omega) hl rfl
      have hw2 : Kp n₀ e W1.heap.size W (W.putObj (D + 1) (.loop (rec .busy none))) := kp_put (by omega) (by omega) hl
      have hbody' := hbody (D + 1) pre x S _ hi2 (fun b hb => ⟨by have := hSD b hb; omega, by rw [World.putObj_size]; exact (hSb b hb).2⟩) hpre
      rw [hD] at hbody'
      refine wpIn_mono hbody' ?_
      have fin : ∀ (jump : Option Code) (W3 : World), Kp n₀ e D (W.putObj (D + 1) (.loop (rec .busy none))) W3 →
          (Instr.endRound (D + 1) jump).run P W3 = .ok (.bool jump.isNone) (W3.putObj (D + 1) (.loop (rec (if jump.isNone then .ready else .done) jump))) ∧
          W3.heap[D + 1]? = some (.loop (rec .busy none)) ∧
          (W3.putObj (D + 1) (.loop (rec (if jump.isNone then .ready else .done) jump))).heap[D + 1]? = some (.loop (rec (if jump.isNone then .ready else .done) jump)) ∧
          (W3.putObj (D + 1) (.loop (rec (if jump.isNone then .ready else .done) jump))).heap[D]? = some (.deferred (some [])) := by
        intro jump W3 hk3
        have hl3 := hk3.keep _ _ (by omega) hl2 (fun _ _ h => by cases h)
        have hr3 := run_endRound (P := P) jump hl3
        rw [hset2] at hr3
        exact ⟨hr3, hl3, World.putObj_heap_same (Array.getElem?_eq_some_iff.1 hl3).1, (World.putObj_heap_other (by omega)).trans (hk3.keep _ _ (Nat.le_refl _) hk2 (fun _ _ h => by cases h))⟩
      rintro ex a3 W3 hp
      cases ex with
      | normal =>
        obtain ⟨hk3, hs3, hi3⟩ := hp
        obtain ⟨hr, hl3, hl4, hk4⟩ := fin none W3 hk3
        exact ⟨_, _, hr, (hw2.trans (hk3.later (by omega))).trans (kp_put (by omega) (by omega) hl3), fun b hb => ((World.putObj_heap_other (by have := hSD b hb; omega)).trans (hs3 b hb)).trans (World.putObj_heap_other (by have := hSD b hb; omega)), .inl ⟨rfl, hI.putObj _ hi3 (by omega) hl3 rfl, hSD, hl4, hk4⟩⟩
      | ret =>
        obtain ⟨hk3, hs3, hi3⟩ := hp
        obtain ⟨hr, hl3, hl4, hk4⟩ := fin (some .ret) W3 hk3
        exact ⟨_, _, hr, (hw2.trans (hk3.later (by omega))).trans (kp_put (by omega) (by omega) hl3), fun b hb => ((World.putObj_heap_other (by have := hSD b hb; omega)).trans (hs3 b hb)).trans (World.putObj_heap_other (by have := hSD b hb; omega)), .inr ⟨rfl, .ret, (hIx _).putObj _ hi3 (by omega) hl3 rfl, hSD, hl4, hk4⟩⟩
      | exit id =>
        obtain ⟨hk3, hs3, hi3⟩ := hp
        obtain ⟨hr, hl3, hl4, hk4⟩ := fin (some (.exit id)) W3 hk3
        exact ⟨_, _, hr, (hw2.trans (hk3.later (by omega))).trans (kp_put (by omega) (by omega) hl3), fun b hb => ((World.putObj_heap_other (by have := hSD b hb; omega)).trans (hs3 b hb)).trans (World.putObj_heap_other (by have := hSD b hb; omega)), .inr ⟨rfl, .exit id, (hIx _).putObj _ hi3 (by omega) hl3 rfl, hSD, hl4, hk4⟩⟩
      | goto t =>
        obtain ⟨hk3, hs3, hi3⟩ := hp
        obtain ⟨hr, hl3, hl4, hk4⟩ := fin (some (.goto t)) W3 hk3
        exact ⟨_, _, hr, (hw2.trans (hk3.later (by omega))).trans (kp_put (by omega) (by omega) hl3), fun b hb => ((World.putObj_heap_other (by have := hSD b hb; omega)).trans (hs3 b hb)).trans (World.putObj_heap_other (by have := hSD b hb; omega)), .inr ⟨rfl, .goto t, (hIx _).putObj _ hi3 (by omega) hl3 rfl, hSD, hl4, hk4⟩⟩
      | panic ch => exact hp.elim
      | outgrown => exact hp.elim
    · rintro ex W2 ⟨⟨v, rfl⟩, (⟨S, hi, hSD, hl, hk⟩ | ⟨pre, S, hpre, c, hi, hSD, hl, hk⟩)⟩
      · have hend := run_endLoop (P := P) hl (by rw [hst]; simp)
        rw [hset, hpe] at hend
        exact ⟨none, _, hend, hdone D S _ (by omega) (hI.putObj _ hi (by omega) hl rfl) ((World.putObj_heap_other (by omega)).trans hk)⟩
      · have hend := run_endLoop (P := P) hl (by rw [hst]; simp)
        rw [hset, hpe] at hend
        exact ⟨some c, _, hend, hstop D c pre S _ (by omega) hpre ((hIx c).putObj _ hi (by omega) hl rfl) ((World.putObj_heap_other (by omega)).trans hk)⟩
end Go.Proofs.YtfdlmgjjpcdkpaaDoor
