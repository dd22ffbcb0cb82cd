/- The law on sequences that are left early. -/
import Derived.Test.YthepjpahabcpkaaDoorSq
import Derived.Deep.RegionHeld3
import Derived.Deep.RegionWith
import Derived.Maps.AppendAt
namespace Go.Proofs.YthepjpahabcpkaaDoor
open Go.RowKit Go.Shelf
attribute [local go_sem] Oper.semAt_some

theorem hold_step {W1 A B : World} {g : Nat} {row : Option Nat} (h1 : W1.grownBy A (some g)) (h2 : A.grownBy B row) (hr : ∀ r, row = some r → r = g ∨ W1.heap.size ≤ r) : W1.grownBy B (some g) :=
  ⟨h2.os.trans h1.os, h2.tape.trans h1.tape, h2.output.trans h1.output, Nat.le_trans h1.size h2.size, fun k hk hne => (h2.block k (Nat.lt_of_lt_of_le hk h1.size) (fun e => by
    rcases hr k e.symm with h | h
    · exact hne (by rw [h])
    · omega)).trans (h1.block k hk hne)⟩
theorem row_kept {A B : World} {row : Option Nat} {base q : Nat} {e : TypeId} {v : Value} {l : List Value} (hrow : A.ownsRow base e 1 v q l) (hg : A.grownBy B row) (hr : ∀ r, row = some r → ∃ o : Obj, A.heap[r]? = some o ∧ o.isCells = false) : B.ownsRow base e 1 v q l := by
  refine hrow.kept hg ?_
  rcases hrow.2 with ⟨rfl, _⟩ | ⟨g, cap, cur, rfl, _, hgb, _⟩
  · exact .inl rfl
  · refine .inr fun e => ?_
    obtain ⟨o, ho, hc⟩ := hr g e.symm
    rw [hgb] at ho
    cases ho
    cases hc
theorem box_kept {A B : World} {row : Option Nat} {b : Nat} {t : TypeId} {v : Value} (hv : Boxed A b t v) (hg : A.grownBy B row) (hr : ∀ r, row = some r → ∃ o : Obj, A.heap[r]? = some o ∧ o.isCells = false) : Boxed B b t v :=
  hv.kept hg fun e => by
    obtain ⟨o, ho, hc⟩ := hr b e.symm
    rw [show A.heap[b]? = _ from hv] at ho
    cases ho
    cases hc
theorem take_own {W1 : World} {g n B : Nat} (hB : W1.heap.size ≤ B) : OwnFrom B (fun (pre : List Nat) W => (∃ v, Boxed W g 44 v ∧ W.ownsRow W1.heap.size 25 1 v pre.length (us pre)) ∧ pre.length ≤ n ∧ W1.grownBy W (some g)) := by
  rintro pre A B row ⟨⟨v, hv, hrow⟩, hpn, hgr⟩ hg hr
  exact ⟨⟨v, box_kept hv hg (fun r e => (hr r e).2), row_kept hrow hg (fun r e => (hr r e).2)⟩, hpn, hold_step hgr hg (fun r e => .inr (Nat.le_trans hB (hr r e).1))⟩
theorem fin_own {W1 : World} {g B : Nat} {l : List Nat} (hB : W1.heap.size ≤ B) : OwnFrom B (fun (_ : Unit) W => (∃ v q, Boxed W g 44 v ∧ W.ownsRow W1.heap.size 25 1 v q (us l)) ∧ W1.grownBy W (some g)) := by
  rintro pre A B row ⟨⟨v, q, hv, hrow⟩, hgr⟩ hg hr
  exact ⟨⟨v, q, box_kept hv hg (fun r e => (hr r e).2), row_kept hrow hg (fun r e => (hr r e).2)⟩, hold_step hgr hg (fun r e => .inr (Nat.le_trans hB (hr r e).1))⟩
theorem mk_us {T : Array Value} {F : (Nat → Value) → Array Value} (h : T = F (fun i => T.getD i undef)) : ∃ us, T = F us := ⟨_, h⟩
theorem vals_take {w : World} {A : Option Addr} {l : List Nat} (h : Vals w A (us l)) (n : Nat) : Vals w A (us (l.take n)) := by
  rcases h with h | ⟨ad, hA, hb, hc⟩
  · left
    have : l = [] := by simpa [us] using h
    rw [this]
    simp [us]
  · refine .inr ⟨ad, hA, hb, fun j x hx => hc j x ?_⟩
    have e : us (l.take n) = (us l).take n := by simp [us, List.map_take]
    rw [e, List.getElem?_take] at hx
    split at hx
    · exact hx
    · cases hx
theorem up_keep {a w : World} {p : Addr} {v : Value} (hu : Up a w) (h : a.cell? p = some v) : w.cell? p = some v := (hu.cell (cell_lt h)).trans h
theorem slice_to (A : Option Addr) (l m c : Nat) (hm : m ≤ c) (W : World) : (Instr.slice 44 (.slice A l c) none (some (.int .i64 (m : Int))) none).run Tryd.prog W = .ok (.slice A m c) W := by
  obtain ⟨i0, hi, hz0, hz1, hz2⟩ := info_parts Tryd.info25
  have hel : Tryd.prog.elem 44 = 25 := by kernel_rfl
  rw [run_slice_h (t := 44) (a := A) (len := l) (cap := c) (ht := by rw [hel]; exact Tryd.underlying44) (kh := .i64) (h := (m : Int)) (h0 := by omega) (h2 := by omega), hel]
  have hsz : (sizeOf 25).run Tryd.prog W = .ok i0.size W := by simp [sizeOf, typeInfo, hi]
  rw [hsz]
  have e : ∀ s, sliced A 0 (m : Int).toNat c s = .slice A m c := by
    intro s
    unfold sliced
    have ha : A.map (fun x => x.add (0 * s)) = A := by
      cases A with
      | none => rfl
      | some ad => simp [Addr.add]
    rw [ha, ite_self]
    simp
  show Result.ok (sliced A 0 (m : Int).toNat c i0.size) W = _
  rw [e]
/-- What an append to the list in the box comes to. -/
theorem take_app {W1 W : World} {g q x n₀ : Nat} {v : Value} {l : List Value} (hgr : W1.grownBy W (some g)) (hv : Boxed W g 44 v) (hrow : W.ownsRow W1.heap.size 25 1 v q l) (hgn : n₀ ≤ g) (hg1 : g < W1.heap.size) :
    ∀ (v' : Value) (w9 : World), w9.ownsRow W1.heap.size 25 1 v' (q + 1) (l ++ us [x]) → (W.alloc (.cells #[.int .u16 (x : Int)] 25)).grownBy w9 v.ownBlock →
      Boxed w9 g 44 v ∧ Kp n₀ 25 W1.heap.size W (w9.setCell ⟨g, 0, none⟩ v') ∧ Boxed (w9.setCell ⟨g, 0, none⟩ v') g 44 v' ∧ (w9.setCell ⟨g, 0, none⟩ v').ownsRow W1.heap.size 25 1 v' (q + 1) (l ++ us [x]) ∧ W1.grownBy (w9.setCell ⟨g, 0, none⟩ v') (some g) := by
  intro v' w9 hown' hgrow
  have hsz := hgr.size
  have hv1 : Boxed w9 g 44 v := (hv.alloc _).kept hgrow (hv.not_row (by decide) hrow)
  have hrb : ∀ k, v.ownBlock = some k → W1.heap.size ≤ k ∧ ∃ cs fr, (W.alloc (.cells #[.int .u16 (x : Int)] 25)).heap[k]? = some (.cells cs 25 fr) := by
    intro k ek
    rcases hrow.2 with ⟨rfl, _⟩ | ⟨g0, cap, cur, rfl, hbg, hgb, _⟩
    · simp [Value.ownBlock] at ek
    · obtain rfl : g0 = k := by simpa [Value.ownBlock] using ek
      exact ⟨hbg, cur, _, (Below.heap_alloc _ _ g0 (Array.getElem?_eq_some_iff.1 hgb).1).trans hgb⟩
  refine ⟨hv1, ?_, hv1.set v', hown'.kept (grownBy_setCell' w9 g v') (.inr (hv1.not_row (by decide) hown').symm), ?_⟩
  · have k1 : Kp n₀ 25 W1.heap.size W (W.alloc (.cells #[.int .u16 (x : Int)] 25)) := Kp.of_below ((Below.refl _ W).alloc (Nat.le_refl _) _) (by omega)
    have k2 : Kp n₀ 25 W1.heap.size (W.alloc (.cells #[.int .u16 (x : Int)] 25)) w9 :=
      Kp.of_grown hgrow (by simp; omega) (fun k ek => ⟨by have := (hrb k ek).1; omega, .inr (hrb k ek).2⟩)
    have := hgrow.size
    simp at this
    exact (k1.trans k2).trans (Kp.of_grown (grownBy_setCell' _ _ _) (by omega) (fun k ek => by cases ek; exact ⟨hgn, .inl hg1⟩))
  · have h1 := hold_step hgr (World.grownBy_alloc W (.cells #[.int .u16 (x : Int)] 25) none) (fun r e => by cases e)
    have h2 := hold_step h1 hgrow (fun r e => .inr (hrb r e).1)
    exact hold_step h2 (grownBy_setCell' w9 g v') (fun r e => .inl (by cases e; rfl))
/-- The builtin min of two ints, as one step of a region that draws. -/
theorem step_min2 {P : Program} {ops : Array Oper} {o : Oper} {a : Act} {w : World} {K : Act → World → Prop} {Q : Exit → Act → World → Prop} {E : Prop}
    (hg : Region.wanted o (yielded ops a.tmps) = true) {p q : Operand} {ts : Array TypeId} (hop : o.op = Op.call { callee := Callee.builtin Builtin.min, args := #[p, q], argTypes := ts })
    {k k' : IntKind} {x y z : Int} (hx : a.eval p = .int k x) (hy : a.eval q = .int k' y) (hz : (if y < x then y else x) = z)
    (hK : K (a.put o.dst (.int k z)) w) : if Region.wanted o (yielded ops a.tmps) = true then Oper.wp P o a w K Q else E := by
  rw [if_pos hg]
  subst hz
  have hrun := run_min_int2 (P := P) w ts o.type k k' x y
  unfold Oper.wp
  simp [execOp, hop, resolve, invoke, builtin, hx, hy, hrun, Result.andThen]
  exact hK
/-- The statement 'for x := range g { .. }' in a block, whose body may break off. -/
theorem range_take {α : Type} {P : Program} {g : Operand} {ps : Array Tmp} {assign body : Code} {Q : Exit → Act → World → Prop} {a : Act} {w : World} {b : Nat}
    {gf : Nat} {lb : Array Value} (hg : a.eval g = .func (.func gf) #[] lb) (eg : ∀ args w, (callFunc gf args).run P w = .ok (.enter gf args) w)
    {enc : α → Value} {n₀ : Nat} {e : TypeId} {xs : List α} {w0 : World} (hseq : SeqO P gf lb enc n₀ e xs w0) (hb0 : Below w0.heap.size w0 w) (hn₀ : n₀ ≤ w.heap.size) (hps : ps.size = 1)
    (I : List α → World → Prop) (Fin : World → Prop) (hI : OwnFrom w.heap.size I) (hF : OwnFrom w.heap.size (fun (_ : Unit) W => Fin W)) (h0 : I [] w) (a₁ : α → Act)
    (hassign : ∀ (l : Nat) (x : α) (W : World) (K : Act → World → Prop), K (a₁ x) W →
      assign.wpIn (Fence.wide.inRound l) 0 P (Exit.then K (fun _ _ _ => False)) { tmps := (ps.zip #[enc x]).foldl (fun t (p, v) => t.setIfInBounds p v) a.tmps, defers := [] } W)
    (hbody : ∀ (l : Nat) (pre : List α) (x : α) (W : World), I pre W → pre ++ [x] <+: xs → body.wpIn (Fence.wide.inRound l) 0 P (rgPost w.heap.size n₀ e I (fun c _ W => c = .exit b ∧ Fin W) (pre ++ [x]) W) (a₁ x) W)
    (hfin : ∀ W, I xs W → Fin W)
    (hdone : ∀ (D : Nat) (W : World), w.heap.size ≤ D → Fin W → W.heap[D]? = some (.deferred (some [])) → Q .normal { a with defers := { target := .collected D, args := #[] } :: a.defers } W) :
    (Code.rangeFunc g ps assign body).wp P (Exit.inBlock b Q) a w := by
  refine (wpIn_wide (n := 0)).1 ?_
  refine range_walk hg eg hseq hb0 hn₀ hps I (fun c _ W => c = .exit b ∧ Fin W) hI (fun c pre A B row hs hg hr => ⟨hs.1, hF () A B row hs.2 hg hr⟩) h0 a₁ hassign hbody ?_ ?_
  · intro D W hD hi hk
    exact hdone D W hD (hfin W hi) hk
  · rintro D c pre W hD _ ⟨rfl, hF⟩ hk
    refine wpIn_wide.2 ?_
    exact wp_exit (by show (if b = b then _ else _); rw [if_pos rfl]; exact hdone D W hD hF hk)
set_option maxRecDepth 100000 in
set_option maxHeartbeats 8000000 in
theorem earlyW (s : Nat) (k : Int) (n : Nat) (w : World) (hTab : Tabs w) (hs : s < 65536) (hn : n < 256) : Calls Tryd.prog 9 #[.int .u16 (s : Int), .int .i64 k, .int .u8 (n : Int)] w (RetV w (.bool true)) := by
  have HTab := hide hTab
  clear hTab
  obtain ⟨i0, hi, hz0, hz1, hz2⟩ := info_parts Tryd.info25
  have hrc := fun w => rcount_any s w hs
  by_cases h8 : cnt s ≤ 8
  · have hrs := fun w => rsubsets_any s w hs (by omega)
    have hrch := fun w => rchoose_any s k w hs
    have hsl := subs_small (s := s) (by omega) (cnt s + 1) (Nat.le_refl _)
    have hcl := choI_len (s := s) k (by omega)
    have hsq := fun B n₀ w hn hB hBs => subsets_seq B s n₀ w hs hn hB hBs
    obtain ⟨L, HL⟩ : ∃ L, Hid (L = subs s (cnt s + 1)) := ⟨_, rfl⟩
    obtain ⟨C, HC⟩ : ∃ C, Hid (C = choI s k) := ⟨_, rfl⟩
    have hcq := fun Bs Bk n₀ w hn h1 h2 => choose_seq Bs Bk s n₀ k w hs hn h1 h2
    rw [← HL.out] at hrs hsl hsq
    rw [← HC.out] at hrch hcl hcq
    obtain ⟨m, hm⟩ : ∃ m, cnt s = m := ⟨_, rfl⟩
    rw [hm] at hrc h8
    have d : decide (8 < (m : Int)) = false := decide_eq_false (by omega)
    clear hm
    refine (callsIn_wide (n := 0)).1 (callsIn_of_wp_marks Tryd.func9 rfl trivial (wpIn_wide.2 ?_) rfl)
    simp only [Tryd.ntmps9, List.size_toArray, List.length_cons, List.length_nil, Nat.reduceAdd, Nat.reduceSub, Array.replicate_succ, Array.replicate_zero, List.push_toArray, List.append_toArray, List.nil_append, List.cons_append]
    have hTb : Tabs (w.alloc (.cells #[.int .u8 (n : Int)] 5)) := HTab.out.up ((Up.refl w).alloc _)
    go_wp2_with fail
    refine (awake_any _ hTb).mono ?_
    clear hTb
    rintro e1 w1 ⟨rfl, hu1⟩
    go_wp2_with fail
    refine (hrc w1).mono ?_
    rintro e2 w2 ⟨rfl, hu2⟩
    have bn2 : Boxed w2 w.heap.size 5 (.int .u8 (n : Int)) := (Boxed.new w _ _).kept (up_grown (hu1.trans hu2)) (by simp)
    have hup2 : Up w w2 := up_alloc_up (hu1.trans hu2)
    clear hu1 hu2
    go_wp2_with fail
    refine (callsIn_wide.1 (subsets_any s w2)).mono ?_
    rintro e3 w3 ⟨rfl, hw3⟩
    have hs3 : w3.heap.size = w2.heap.size + 1 := by rw [hw3]; simp
    have bn3 : Boxed w3 w.heap.size 5 (.int .u8 (n : Int)) := by rw [hw3]; exact bn2.alloc _
    have bx3 : Boxed w3 w2.heap.size 25 (.int .u16 (s : Int)) := by rw [hw3]; exact Boxed.new w2 _ _
    have hup3 : Up w w3 := by rw [hw3]; exact hup2.alloc _
    clear hw3
    go_wp2_with fail
    refine (callsIn_wide.1 (choose_any s k w3)).mono ?_
    rintro e4 w4 ⟨rfl, hw4⟩
    have hs4 : w4.heap.size = w3.heap.size + 2 := by rw [hw4]; simp
    have bn4 : Boxed w4 w.heap.size 5 (.int .u8 (n : Int)) := by rw [hw4]; exact (bn3.alloc _).alloc _
    have bx4 : Boxed w4 w2.heap.size 25 (.int .u16 (s : Int)) := by rw [hw4]; exact (bx3.alloc _).alloc _
    have by4 : Boxed w4 w3.heap.size 25 (.int .u16 (s : Int)) := by rw [hw4]; exact (Boxed.new w3 _ _).alloc _
    have bz4 : Boxed w4 (w3.heap.size + 1) 3 (.int .i64 k) := by
      rw [hw4]
      have := Boxed.new (w3.alloc (.cells #[.int .u16 (s : Int)] 25)) 3 (.int .i64 k)
      rwa [World.size_alloc] at this
    have hup4 : Up w w4 := by rw [hw4]; exact (hup3.alloc _).alloc _
    have hlt1 := bn2.lt
    have hlt2 : w2.heap.size < w4.heap.size := by omega
    have hlt3 : w3.heap.size + 1 < w4.heap.size := by omega
    have hlt4 : w2.heap.size < w3.heap.size := by omega
    clear hw4 bn2 bn3 bx3 hup2 hup3 hrc hs3 hs4
    go_wp2_with fail
    refine wp_loop (fun a wr => ∃ (j : Nat) (ds : List Deferred), j ≤ 2 ∧ (∃ uz : Nat → Value, a.tmps = #[.int .u16 (s : Int), .int .i64 k, .int .u8 (n : Int), uz 3, uz 4, .pointer (some ⟨w.heap.size, 0, none⟩), .bool false, .func (.func 52) #[] #[.pointer (some ⟨w2.heap.size, 0, none⟩)], .func (.func 53) #[] #[.pointer (some ⟨w3.heap.size, 0, none⟩), .pointer (some ⟨w3.heap.size + 1, 0, none⟩)], uz 9, uz 10, uz 11, uz 12, uz 13, uz 14, uz 15, uz 16, uz 17, uz 18, uz 19, uz 20, uz 21, uz 22, uz 23, uz 24, uz 25, uz 26, uz 27, .int .i64 (j : Int), uz 29, uz 30, uz 31, uz 32, uz 33, uz 34, uz 35, uz 36, uz 37, uz 38, uz 39, uz 40, uz 41, uz 42, uz 43, uz 44, uz 45, uz 46, uz 47, uz 48, uz 49, uz 50, uz 51, uz 52, uz 53, uz 54, uz 55, uz 56, uz 57, uz 58, uz 59, uz 60, uz 61, uz 62, uz 63, uz 64, uz 65, uz 66, uz 67, uz 68, uz 69, uz 70, uz 71, uz 72, uz 73, uz 74, uz 75, uz 76, uz 77, uz 78, uz 79]) ∧ a.defers = ds ∧ Marks w4.heap.size ds wr.heap.size wr ∧ Up w4 wr)
      (fun a _ => 2 - (intOf (a.tmps.getD 28 undef)).toNat) ?_ ?_
    · exact ⟨0, [], by omega, mk_us rfl, rfl, trivial, Up.refl _⟩
    · rintro ⟨tm, ds⟩ wr ⟨j, _, hj, ⟨uz, hT⟩, rfl, hM, hup⟩
      dsimp only at hT hM
      subst hT
      have hszr := hup.size
      by_cases hlt : j < 2
      · have dj : decide ((j : Int) < 2) = true := decide_eq_true (by omega)
        go_wp2_with fail
        obtain ⟨g, hg⟩ : ∃ g, wr.heap.size = g := ⟨_, rfl⟩
        obtain ⟨W1, hW1⟩ : ∃ W1, (wr.alloc (.cells #[.slice none 0 0] 44)).alloc (.cells #[.slice none 0 0] 44) = W1 := ⟨_, rfl⟩
        have hs1 : W1.heap.size = g + 2 := by rw [← hW1, ← hg]; simp
        have ba1 : Boxed W1 g 44 (.slice none 0 0) := by rw [← hW1, ← hg]; exact (Boxed.new wr _ _).alloc _
        have bb1 : Boxed W1 (g + 1) 44 (.slice none 0 0) := by
          rw [← hW1, ← hg]
          have := Boxed.new (wr.alloc (.cells #[.slice none 0 0] 44)) 44 (.slice none 0 0)
          rwa [World.size_alloc] at this
        have hup1 : Up w4 W1 := by rw [← hW1]; exact (hup.alloc _).alloc _
        have M1 : Marks w4.heap.size ds g W1 := by
          rw [hg] at hM
          refine hM.kept fun b o h1 h2 ho _ => ?_
          rw [← hW1]
          exact ((Below.heap_alloc _ _ b (by simp; omega)).trans (Below.heap_alloc _ _ b (by omega))).trans ho
        rw [hg] at hszr
        rw [hW1, hg]
        have bn1 : Boxed W1 w.heap.size 5 (.int .u8 (n : Int)) := (hup1.block _ bn4.lt).trans bn4
        have bx1 : Boxed W1 w2.heap.size 25 (.int .u16 (s : Int)) := (hup1.block _ bx4.lt).trans bx4
        have by1 : Boxed W1 w3.heap.size 25 (.int .u16 (s : Int)) := (hup1.block _ by4.lt).trans by4
        have bz1 : Boxed W1 (w3.heap.size + 1) 3 (.int .i64 k) := (hup1.block _ bz4.lt).trans bz4
        clear hW1 hg hM hup
        refine range_take (b := 2) (gf := 52) (lb := #[.pointer (some ⟨w2.heap.size, 0, none⟩)]) rfl (enters_of Tryd.func52 (by kernel_rfl) rfl) (hsq w2.heap.size g W1 (by omega) (by omega) bx1) (Below.refl _ _) (by omega) rfl
          (fun pre W => (∃ v, Boxed W (g) 44 v ∧ W.ownsRow W1.heap.size 25 1 v pre.length (us pre)) ∧ pre.length ≤ n ∧ W1.grownBy W (some (g)))
          (fun W => (∃ v q, Boxed W (g) 44 v ∧ W.ownsRow W1.heap.size 25 1 v q (us (L.take n))) ∧ W1.grownBy W (some (g)))
          (take_own (Nat.le_refl _)) (fin_own (Nat.le_refl _)) ⟨⟨_, ba1, World.ownsRow_nil _ _ _ _⟩, by simp, World.grownBy.refl _ _⟩
          (fun x => { tmps := #[.int .u16 (s : Int), .int .i64 k, .int .u8 (n : Int), uz 3, uz 4, .pointer (some ⟨w.heap.size, 0, none⟩), .bool false, .func (.func 52) #[] #[.pointer (some ⟨w2.heap.size, 0, none⟩)], .func (.func 53) #[] #[.pointer (some ⟨w3.heap.size, 0, none⟩), .pointer (some ⟨w3.heap.size + 1, 0, none⟩)], .pointer (some ⟨g, 0, none⟩), .pointer (some ⟨g + 1, 0, none⟩), .int .u16 (x : Int), uz 12, uz 13, uz 14, uz 15, uz 16, uz 17, uz 18, uz 19, uz 20, uz 21, uz 22, uz 23, uz 24, uz 25, uz 26, uz 27, .int .i64 (j : Int), .bool true, .func (.func 52) #[] #[.pointer (some ⟨w2.heap.size, 0, none⟩)], .int .u16 (x : Int), uz 32, uz 33, uz 34, uz 35, uz 36, uz 37, uz 38, uz 39, uz 40, uz 41, uz 42, uz 43, uz 44, uz 45, uz 46, uz 47, uz 48, uz 49, uz 50, uz 51, uz 52, uz 53, uz 54, uz 55, uz 56, uz 57, uz 58, uz 59, uz 60, uz 61, uz 62, uz 63, uz 64, uz 65, uz 66, uz 67, uz 68, uz 69, uz 70, uz 71, uz 72, uz 73, uz 74, uz 75, uz 76, uz 77, uz 78, uz 79], defers := [] })
          ?assign2 ?body2 ?fin2 ?done2
        case assign2 =>
          intro l2 x W K2 hK2
          dsimp only [svE]
          gi_wp2
          exact hK2
        case body2 =>
          rintro l2 pre x W ⟨⟨v, hv, hrow⟩, hpn, hgr⟩ hpre
          have cN0 : Boxed W w.heap.size 5 (.int .u8 (n : Int)) := (hgr.block _ bn1.lt (by simp; omega)).trans bn1
          have cN := cN0.cell
          have hsz := hgr.size
          have hpl : pre.length + 1 ≤ L.length := by have := hpre.length_le; simpa using this
          obtain ⟨q, hq⟩ : ∃ q, pre.length = q := ⟨_, rfl⟩
          rw [hq] at hrow hpl hpn
          obtain ⟨A1, c1, rfl, _, _, _, _⟩ := own_vals hrow
          have cA := hv.cell
          by_cases hqn : q = n
          · have d1 : ((q : Int) == (n : Int)) = true := by rw [beq_iff_eq]; omega
            have hpt : pre = L.take n := by
              obtain ⟨t, ht⟩ := List.IsPrefix.trans (List.prefix_append pre [x]) hpre
              rw [← ht, ← hqn, ← hq, List.take_left]
            rw [hpt] at hrow
            have hout : (∃ v q, Boxed W (g) 44 v ∧ W.ownsRow W1.heap.size 25 1 v q (us (L.take n))) ∧ W1.grownBy W (some (g)) := ⟨⟨_, _, hv, hrow⟩, hgr⟩
            have HOut := hide hout
            clear hqn hpt hrow hq hpl hout
            gi_wp2
            exact ⟨Kp.refl _ _ _ _, rfl, HOut.out⟩
          · have d1 : ((q : Int) == (n : Int)) = false := by rw [beq_eq_false_iff_ne]; omega
            have hap := take_app (x := x) (n₀ := g) hgr hv hrow (by omega) (by omega)
            have hqn2 : q < n := by omega
            clear hqn
            dsimp only [svE]
            gi_wp2_with (gi_at_builtin; refine wpListIn_append_own _ rfl _ _ 44 rfl W1.heap.size 25 i0 (.int .u16 0) 1 2 Tryd.underlying44 hi hz0 hz1 hz2 rfl (by decide) _ _ _ rfl (hrow.alloc _) ⟨W.heap.size, 0, none⟩ 1 1 (us [x]) rfl rfl (cell_one_new _ _ _) (by simp [us, Value.oneCell', sv]) (by simp [maxLen]; omega) (by omega) (by simp; omega) ?_; intro v' w9 hown' hgrow _; obtain ⟨g', cap', rfl⟩ := ownsRow_succ hown'; obtain ⟨hv1, hfin⟩ := hap _ _ hown' hgrow; have hc1 := hv1.cell; have hf1 := hv1.frozen)
            obtain ⟨e1, e2, e3, e4⟩ := hfin
            exact ⟨e1, ⟨_, e2, by rw [List.length_append, hq, us_append]; exact e3⟩, by rw [List.length_append, hq]; simp; omega, e4⟩
        case fin2 =>
          rintro W ⟨⟨v, hv, hrow⟩, hpn, hgr⟩
          exact ⟨⟨v, _, hv, by rw [List.take_of_length_le hpn]; exact hrow⟩, hgr⟩
        case done2 =>
          rintro D1 W2 hD1 ⟨⟨va, qa, ba2, ra2⟩, ga2⟩ kD1
          have bn2 : Boxed W2 w.heap.size 5 (.int .u8 (n : Int)) := (ga2.block _ bn1.lt (by simp; omega)).trans bn1
          have bb2 : Boxed W2 (g + 1) 44 (.slice none 0 0) := (ga2.block _ bb1.lt (by simp)).trans bb1
          have by2 : Boxed W2 w3.heap.size 25 (.int .u16 (s : Int)) := (ga2.block _ by1.lt (by simp; omega)).trans by1
          have bz2 : Boxed W2 (w3.heap.size + 1) 3 (.int .i64 k) := (ga2.block _ bz1.lt (by simp; omega)).trans bz1
          have M2 : Marks w4.heap.size ds g W2 := M1.kept fun b o h1 h2 ho hno => (ga2.block b (by omega) (by simp; omega)).trans ho
          have hup2 : Up w4 W2 := hup1.grown ga2 (fun k e => by cases e; omega)
          have hs2' := ga2.size
          clear hup1 M1 bn1 bb1 by1 bz1 bx1 ba1
          go_wp2_with fail
          refine range_take (b := 4) (gf := 53) (lb := #[.pointer (some ⟨w3.heap.size, 0, none⟩), .pointer (some ⟨w3.heap.size + 1, 0, none⟩)]) rfl (enters_of Tryd.func53 (by kernel_rfl) rfl) (hcq w3.heap.size (w3.heap.size + 1) g W2 (by omega) by2 bz2) (Below.refl _ _) (by omega) rfl
            (fun pre W => (∃ v, Boxed W (g + 1) 44 v ∧ W.ownsRow W2.heap.size 25 1 v pre.length (us pre)) ∧ pre.length ≤ n ∧ W2.grownBy W (some (g + 1)))
            (fun W => (∃ v q, Boxed W (g + 1) 44 v ∧ W.ownsRow W2.heap.size 25 1 v q (us (C.take n))) ∧ W2.grownBy W (some (g + 1)))
            (take_own (Nat.le_refl _)) (fin_own (Nat.le_refl _)) ⟨⟨_, bb2, World.ownsRow_nil _ _ _ _⟩, by simp, World.grownBy.refl _ _⟩
            (fun x => { tmps := #[.int .u16 (s : Int), .int .i64 k, .int .u8 (n : Int), uz 3, uz 4, .pointer (some ⟨w.heap.size, 0, none⟩), .bool false, .func (.func 52) #[] #[.pointer (some ⟨w2.heap.size, 0, none⟩)], .func (.func 53) #[] #[.pointer (some ⟨w3.heap.size, 0, none⟩), .pointer (some ⟨w3.heap.size + 1, 0, none⟩)], .pointer (some ⟨g, 0, none⟩), .pointer (some ⟨g + 1, 0, none⟩), uz 11, .int .u16 (x : Int), uz 13, uz 14, uz 15, uz 16, uz 17, uz 18, uz 19, uz 20, uz 21, uz 22, uz 23, uz 24, uz 25, uz 26, uz 27, .int .i64 (j : Int), .bool true, .func (.func 52) #[] #[.pointer (some ⟨w2.heap.size, 0, none⟩)], uz 31, uz 32, uz 33, uz 34, uz 35, uz 36, uz 37, uz 38, uz 39, uz 40, .func (.func 53) #[] #[.pointer (some ⟨w3.heap.size, 0, none⟩), .pointer (some ⟨w3.heap.size + 1, 0, none⟩)], .int .u16 (x : Int), uz 43, uz 44, uz 45, uz 46, uz 47, uz 48, uz 49, uz 50, uz 51, uz 52, uz 53, uz 54, uz 55, uz 56, uz 57, uz 58, uz 59, uz 60, uz 61, uz 62, uz 63, uz 64, uz 65, uz 66, uz 67, uz 68, uz 69, uz 70, uz 71, uz 72, uz 73, uz 74, uz 75, uz 76, uz 77, uz 78, uz 79], defers := [] })
            ?assign4 ?body4 ?fin4 ?done4
          case assign4 =>
            intro l2 x W K2 hK2
            dsimp only [svE]
            gi_wp2
            exact hK2
          case body4 =>
            rintro l2 pre x W ⟨⟨v, hv, hrow⟩, hpn, hgr⟩ hpre
            have cN0 : Boxed W w.heap.size 5 (.int .u8 (n : Int)) := (hgr.block _ bn2.lt (by simp; omega)).trans bn2
            have cN := cN0.cell
            have hsz := hgr.size
            have hpl : pre.length + 1 ≤ C.length := by have := hpre.length_le; simpa using this
            obtain ⟨q, hq⟩ : ∃ q, pre.length = q := ⟨_, rfl⟩
            rw [hq] at hrow hpl hpn
            obtain ⟨A1, c1, rfl, _, _, _, _⟩ := own_vals hrow
            have cA := hv.cell
            by_cases hqn : q = n
            · have d1 : ((q : Int) == (n : Int)) = true := by rw [beq_iff_eq]; omega
              have hpt : pre = C.take n := by
                obtain ⟨t, ht⟩ := List.IsPrefix.trans (List.prefix_append pre [x]) hpre
                rw [← ht, ← hqn, ← hq, List.take_left]
              rw [hpt] at hrow
              have hout : (∃ v q, Boxed W (g + 1) 44 v ∧ W.ownsRow W2.heap.size 25 1 v q (us (C.take n))) ∧ W2.grownBy W (some (g + 1)) := ⟨⟨_, _, hv, hrow⟩, hgr⟩
              have HOut := hide hout
              clear hqn hpt hrow hq hpl hout
              gi_wp2
              exact ⟨Kp.refl _ _ _ _, rfl, HOut.out⟩
            · have d1 : ((q : Int) == (n : Int)) = false := by rw [beq_eq_false_iff_ne]; omega
              have hap := take_app (x := x) (n₀ := g) hgr hv hrow (by omega) (by omega)
              have hqn2 : q < n := by omega
              clear hqn
              dsimp only [svE]
              gi_wp2_with (gi_at_builtin; refine wpListIn_append_own _ rfl _ _ 44 rfl W2.heap.size 25 i0 (.int .u16 0) 1 2 Tryd.underlying44 hi hz0 hz1 hz2 rfl (by decide) _ _ _ rfl (hrow.alloc _) ⟨W.heap.size, 0, none⟩ 1 1 (us [x]) rfl rfl (cell_one_new _ _ _) (by simp [us, Value.oneCell', sv]) (by simp [maxLen]; omega) (by omega) (by simp; omega) ?_; intro v' w9 hown' hgrow _; obtain ⟨g', cap', rfl⟩ := ownsRow_succ hown'; obtain ⟨hv1, hfin⟩ := hap _ _ hown' hgrow; have hc1 := hv1.cell; have hf1 := hv1.frozen)
              obtain ⟨e1, e2, e3, e4⟩ := hfin
              exact ⟨e1, ⟨_, e2, by rw [List.length_append, hq, us_append]; exact e3⟩, by rw [List.length_append, hq]; simp; omega, e4⟩
          case fin4 =>
            rintro W ⟨⟨v, hv, hrow⟩, hpn, hgr⟩
            exact ⟨⟨v, _, hv, by rw [List.take_of_length_le hpn]; exact hrow⟩, hgr⟩
          case done4 =>
            rintro D2 W3 hD2 ⟨⟨vb, qb, bb3, rb3⟩, gb3⟩ kD2
            have ba3 : Boxed W3 g 44 va := (gb3.block _ ba2.lt (by simp)).trans ba2
            have bn3 : Boxed W3 w.heap.size 5 (.int .u8 (n : Int)) := (gb3.block _ bn2.lt (by simp; omega)).trans bn2
            have ra3 : W3.ownsRow W1.heap.size 25 1 va qa (us (L.take n)) := ra2.kept gb3 (.inr (bb2.not_row (by decide) ra2).symm)
            have M3 : Marks w4.heap.size ds g W3 := M2.kept fun b o h1 h2 ho hno => (gb3.block b (by omega) (by simp; omega)).trans ho
            have kD1' : W3.heap[D1]? = some (.deferred (some [])) := (gb3.block D1 (Array.getElem?_eq_some_iff.1 kD1).1 (fun e => by
              cases e
              rw [show W2.heap[g + 1]? = _ from bb2] at kD1
              cases kD1)).trans kD1
            have hup3 : Up w4 W3 := hup2.grown gb3 (fun k e => by cases e; omega)
            have M5 : Marks w4.heap.size ({ target := .collected D2, args := #[] } :: { target := .collected D1, args := #[] } :: ds) W3.heap.size W3 :=
              ⟨D2, (Array.getElem?_eq_some_iff.1 kD2).1, by omega, rfl, kD2, D1, by have := (Array.getElem?_eq_some_iff.1 kD1).1; omega, by omega, rfl, kD1', M3.le (by omega)⟩
            have hs3' := gb3.size
            clear M2 M3 kD1 kD2 kD1' ba2 bn2 ra2 gb3 ga2 hup2 bb2 by2 bz2
            go_wp2_with fail
            refine (hrs W3).mono ?_
            rintro e5 W4 ⟨v4, rfl, o4, hu4⟩
            go_wp2_with fail
            refine (hrch W4).mono ?_
            rintro e6 W5 ⟨v5, rfl, o5, hu5⟩
            have o4' := own_up o4 hu5
            have hu35 := hu4.trans hu5
            obtain ⟨A4, c4, rfl, hc4, V4, _, _⟩ := own_vals o4'
            obtain ⟨A5, c5, rfl, hc5, V5, _, _⟩ := own_vals o5
            have ra5 := own_up ra3 hu35
            have rb5 := own_up rb3 hu35
            obtain ⟨Aa, ca, rfl, hca, Va, hla, _⟩ := own_vals ra5
            obtain ⟨Ab, cb, rfl, hcb, Vb, hlb, _⟩ := own_vals rb5
            have ba5 := (box_kept ba3 (up_grown hu35) (fun r e => by cases e)).cell
            have bb5 := (box_kept bb3 (up_grown hu35) (fun r e => by cases e)).cell
            have bn5 := (box_kept bn3 (up_grown hu35) (fun r e => by cases e)).cell
            have VL := vals_take V4 n
            have VC := vals_take V5 n
            rw [us_len] at hla hlb
            rw [List.length_take] at hla hlb
            have Hqa : Hid (qa = (L.take n).length) := by show _ = _; rw [List.length_take]; exact hla.symm
            have Hqb : Hid (qb = (C.take n).length) := by show _ = _; rw [List.length_take]; exact hlb.symm
            have sa := fun w' hu => same_any Aa A4 qa ca c4 (L.take n) w' (Vals.up Va hu) (Vals.up VL hu) Hqa (by omega)
            have sb := fun w' hu => same_any Ab A5 qb cb c5 (C.take n) w' (Vals.up Vb hu) (Vals.up VC hu) Hqb (by omega)
            have qc4 : (qa : Int) ≤ (c4 : Int) := by omega
            have qc5 : (qb : Int) ≤ (c5 : Int) := by omega
            clear o4 o4' o5 ra3 rb3 ra5 rb5 ba3 bb3 bn3 V4 V5 Va Vb VL VC hrs hrch hsq hcq
            have hupA : Up W5 W5.drew := (Up.refl W5).drew
            go_wp2_with fail
            rcases (show (qa = n ∧ ¬ L.length < n) ∨ (qa = L.length ∧ L.length < n) by omega) with ⟨eA, tA⟩ | ⟨eA, tA⟩ <;> rcases (show (qb = n ∧ ¬ C.length < n) ∨ (qb = C.length ∧ C.length < n) by omega) with ⟨eB, tB⟩ | ⟨eB, tB⟩ <;> rw [eA] at sa ba5 qc4 <;> rw [eB] at sb bb5 qc5 <;> clear eA eB hla hlb
            · have sl4 := fun W => slice_to A4 L.length n c4 (by omega) W
              have sl5 := fun W => slice_to A5 C.length n c5 (by omega) W
              have ja : (if (L.length : Int) < (n : Int) then (L.length : Int) else (n : Int)) = (n : Int) := by split <;> omega
              have jb : (if (C.length : Int) < (n : Int) then (C.length : Int) else (n : Int)) = (n : Int) := by split <;> omega
              have wn : IntKind.i64.wrap (n : Int) = (n : Int) := by rw [IntKind.wrap_i64]; omega
              clear tA tB qc4 qc5 hc4 hc5 hsl hcl
              go_region_held3 (fun w' => w'.cell? ⟨g, 0, none⟩ = some (.slice Aa n ca) ∧ w'.cell? ⟨g + 1, 0, none⟩ = some (.slice Ab n cb) ∧ w'.cell? ⟨w.heap.size, 0, none⟩ = some (.int .u8 (n : Int)))
                (exact ⟨up_keep hupA ba5, up_keep hupA bb5, up_keep hupA bn5⟩)
                (first
                  | (refine step_min2 (by rfl) rfl (x := (n : Int)) (y := (L.length : Int)) (z := (n : Int)) rfl rfl ja ?_)
                  | (refine step_min2 (by rfl) rfl (x := (n : Int)) (y := (C.length : Int)) (z := (n : Int)) rfl rfl jb ?_)
                  | (go_at_call 30; refine (sa _ hupA).mono ?_; rintro e w9 ⟨rfl, hup9⟩; replace hupA := hupA.trans hup9; clear sa)
                  | (go_at_call 30; refine (sb _ hupA).mono ?_; rintro e w9 ⟨rfl, hup9⟩; replace hupA := hupA.trans hup9))
              have hu := hu35.trans hupA
              have Mf := (M5.kept fun b o h1 h2 ho _ => (hu.block b h2).trans ho).le hu.size
              have hupF := hup3.trans hu
              have wj : IntKind.i64.wrap ((j : Int) + 1) = (j : Int) + 1 := by rw [IntKind.wrap_i64]; omega
              clear hu M5 hup3 hupA hu35 ba5 bb5 bn5 sb sl4 sl5 ja jb
              go_wp2_with fail
              exact ⟨⟨j + 1, _, by omega, mk_us rfl, rfl, Mf, hupF⟩, by simp [intOf]; omega⟩
            · have sl4 := fun W => slice_to A4 L.length n c4 (by omega) W
              have sl5 := fun W => slice_to A5 C.length C.length c5 (by omega) W
              have ja : (if (L.length : Int) < (n : Int) then (L.length : Int) else (n : Int)) = (n : Int) := by split <;> omega
              have jb : (if (C.length : Int) < (n : Int) then (C.length : Int) else (n : Int)) = (C.length : Int) := by split <;> omega
              have wn : IntKind.i64.wrap (n : Int) = (n : Int) := by rw [IntKind.wrap_i64]; omega
              clear tA tB qc4 qc5 hc4 hc5 hsl hcl
              go_region_held3 (fun w' => w'.cell? ⟨g, 0, none⟩ = some (.slice Aa n ca) ∧ w'.cell? ⟨g + 1, 0, none⟩ = some (.slice Ab C.length cb) ∧ w'.cell? ⟨w.heap.size, 0, none⟩ = some (.int .u8 (n : Int)))
                (exact ⟨up_keep hupA ba5, up_keep hupA bb5, up_keep hupA bn5⟩)
                (first
                  | (refine step_min2 (by rfl) rfl (x := (n : Int)) (y := (L.length : Int)) (z := (n : Int)) rfl rfl ja ?_)
                  | (refine step_min2 (by rfl) rfl (x := (n : Int)) (y := (C.length : Int)) (z := (C.length : Int)) rfl rfl jb ?_)
                  | (go_at_call 30; refine (sa _ hupA).mono ?_; rintro e w9 ⟨rfl, hup9⟩; replace hupA := hupA.trans hup9; clear sa)
                  | (go_at_call 30; refine (sb _ hupA).mono ?_; rintro e w9 ⟨rfl, hup9⟩; replace hupA := hupA.trans hup9))
              have hu := hu35.trans hupA
              have Mf := (M5.kept fun b o h1 h2 ho _ => (hu.block b h2).trans ho).le hu.size
              have hupF := hup3.trans hu
              have wj : IntKind.i64.wrap ((j : Int) + 1) = (j : Int) + 1 := by rw [IntKind.wrap_i64]; omega
              clear hu M5 hup3 hupA hu35 ba5 bb5 bn5 sb sl4 sl5 ja jb
              go_wp2_with fail
              exact ⟨⟨j + 1, _, by omega, mk_us rfl, rfl, Mf, hupF⟩, by simp [intOf]; omega⟩
            · have sl4 := fun W => slice_to A4 L.length L.length c4 (by omega) W
              have sl5 := fun W => slice_to A5 C.length n c5 (by omega) W
              have ja : (if (L.length : Int) < (n : Int) then (L.length : Int) else (n : Int)) = (L.length : Int) := by split <;> omega
              have jb : (if (C.length : Int) < (n : Int) then (C.length : Int) else (n : Int)) = (n : Int) := by split <;> omega
              have wn : IntKind.i64.wrap (n : Int) = (n : Int) := by rw [IntKind.wrap_i64]; omega
              clear tA tB qc4 qc5 hc4 hc5 hsl hcl
              go_region_held3 (fun w' => w'.cell? ⟨g, 0, none⟩ = some (.slice Aa L.length ca) ∧ w'.cell? ⟨g + 1, 0, none⟩ = some (.slice Ab n cb) ∧ w'.cell? ⟨w.heap.size, 0, none⟩ = some (.int .u8 (n : Int)))
                (exact ⟨up_keep hupA ba5, up_keep hupA bb5, up_keep hupA bn5⟩)
                (first
                  | (refine step_min2 (by rfl) rfl (x := (n : Int)) (y := (L.length : Int)) (z := (L.length : Int)) rfl rfl ja ?_)
                  | (refine step_min2 (by rfl) rfl (x := (n : Int)) (y := (C.length : Int)) (z := (n : Int)) rfl rfl jb ?_)
                  | (go_at_call 30; refine (sa _ hupA).mono ?_; rintro e w9 ⟨rfl, hup9⟩; replace hupA := hupA.trans hup9; clear sa)
                  | (go_at_call 30; refine (sb _ hupA).mono ?_; rintro e w9 ⟨rfl, hup9⟩; replace hupA := hupA.trans hup9))
              have hu := hu35.trans hupA
              have Mf := (M5.kept fun b o h1 h2 ho _ => (hu.block b h2).trans ho).le hu.size
              have hupF := hup3.trans hu
              have wj : IntKind.i64.wrap ((j : Int) + 1) = (j : Int) + 1 := by rw [IntKind.wrap_i64]; omega
              clear hu M5 hup3 hupA hu35 ba5 bb5 bn5 sb sl4 sl5 ja jb
              go_wp2_with fail
              exact ⟨⟨j + 1, _, by omega, mk_us rfl, rfl, Mf, hupF⟩, by simp [intOf]; omega⟩
            · have sl4 := fun W => slice_to A4 L.length L.length c4 (by omega) W
              have sl5 := fun W => slice_to A5 C.length C.length c5 (by omega) W
              have ja : (if (L.length : Int) < (n : Int) then (L.length : Int) else (n : Int)) = (L.length : Int) := by split <;> omega
              have jb : (if (C.length : Int) < (n : Int) then (C.length : Int) else (n : Int)) = (C.length : Int) := by split <;> omega
              have wn : IntKind.i64.wrap (n : Int) = (n : Int) := by rw [IntKind.wrap_i64]; omega
              clear tA tB qc4 qc5 hc4 hc5 hsl hcl
              go_region_held3 (fun w' => w'.cell? ⟨g, 0, none⟩ = some (.slice Aa L.length ca) ∧ w'.cell? ⟨g + 1, 0, none⟩ = some (.slice Ab C.length cb) ∧ w'.cell? ⟨w.heap.size, 0, none⟩ = some (.int .u8 (n : Int)))
                (exact ⟨up_keep hupA ba5, up_keep hupA bb5, up_keep hupA bn5⟩)
                (first
                  | (refine step_min2 (by rfl) rfl (x := (n : Int)) (y := (L.length : Int)) (z := (L.length : Int)) rfl rfl ja ?_)
                  | (refine step_min2 (by rfl) rfl (x := (n : Int)) (y := (C.length : Int)) (z := (C.length : Int)) rfl rfl jb ?_)
                  | (go_at_call 30; refine (sa _ hupA).mono ?_; rintro e w9 ⟨rfl, hup9⟩; replace hupA := hupA.trans hup9; clear sa)
                  | (go_at_call 30; refine (sb _ hupA).mono ?_; rintro e w9 ⟨rfl, hup9⟩; replace hupA := hupA.trans hup9))
              have hu := hu35.trans hupA
              have Mf := (M5.kept fun b o h1 h2 ho _ => (hu.block b h2).trans ho).le hu.size
              have hupF := hup3.trans hu
              have wj : IntKind.i64.wrap ((j : Int) + 1) = (j : Int) + 1 := by rw [IntKind.wrap_i64]; omega
              clear hu M5 hup3 hupA hu35 ba5 bb5 bn5 sb sl4 sl5 ja jb
              go_wp2_with fail
              exact ⟨⟨j + 1, _, by omega, mk_us rfl, rfl, Mf, hupF⟩, by simp [intOf]; omega⟩
      · have dj : decide ((j : Int) < 2) = false := decide_eq_false (by omega)
        go_wp2_with fail
        exact leave_marks (Z := fun W' => Up w W') (fun A b o o' hb hl ho hz => hz.grown (grownBy_putObj' A b o') (fun k e => by cases e; omega)) (fun W' hz => ⟨_, results_tmp rfl _ _ _, rfl, hz⟩) ds _ wr hM (hup4.trans hup)
  · obtain ⟨m, hm⟩ : ∃ m, cnt s = m := ⟨_, rfl⟩
    rw [hm] at hrc h8
    have d : decide (8 < (m : Int)) = true := decide_eq_true (by omega)
    clear hm h8
    have hTb : Tabs (w.alloc (.cells #[.int .u8 (n : Int)] 5)) := HTab.out.up ((Up.refl w).alloc _)
    refine (callsIn_wide (n := 0)).1 (callsIn_of_wp_marks Tryd.func9 rfl trivial (wpIn_wide.2 ?_) rfl)
    simp only [Tryd.ntmps9, List.size_toArray, List.length_cons, List.length_nil, Nat.reduceAdd, Nat.reduceSub, Array.replicate_succ, Array.replicate_zero, List.push_toArray, List.append_toArray, List.nil_append, List.cons_append]
    go_wp2_with fail
    refine (awake_any _ hTb).mono ?_
    rintro e1 w1 ⟨rfl, hu1⟩
    go_wp2_with fail
    refine (hrc w1).mono ?_
    rintro e2 w2 ⟨rfl, hu2⟩
    go_wp2_with fail
    refine (awake_any w2 (hTb.up (hu1.trans hu2))).mono ?_
    rintro e3 w3 ⟨rfl, hu3⟩
    go_wp2
    exact ⟨_, results_tmp rfl _ _ _, rfl, up_alloc_up ((hu1.trans hu2).trans hu3)⟩
end Go.Proofs.YthepjpahabcpkaaDoor
