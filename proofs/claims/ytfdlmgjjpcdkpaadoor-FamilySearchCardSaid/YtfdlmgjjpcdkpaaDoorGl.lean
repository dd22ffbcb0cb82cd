/- The law on the search: what Search yields of the sets that a family accepts. -/
import Derived.Test.YtfdlmgjjpcdkpaaDoorGk
namespace Go.Proofs.YtfdlmgjjpcdkpaaDoor
open Go.RowKit Go.Shelf
attribute [local go_sem] Oper.semAt_some

/-- What the caller has taken so far: the list in the box G, whose row is not the iterator's. -/
def GI (W1 : World) (G : Nat) (ls : List Nat) (S : Nat → Prop) (W : World) : Prop :=
  (∀ b, S b → W1.heap.size ≤ b) ∧ (∃ v, Boxed W G 22 v ∧ W.ownsRow W1.heap.size 28 1 v ls.length (us ls) ∧ ∀ k, v.ownBlock = some k → ¬ S k) ∧ W1.grownBy W (some G)
theorem gi_own {W1 : World} {G base : Nat} (hG : G < W1.heap.size) (hb : W1.heap.size ≤ base) : OwnG base (GI W1 G) := by
  rintro ls S A B S' ⟨h1, ⟨v, h2, h3, h4⟩, h5⟩ hc hS
  have hsz := h5.size
  refine ⟨fun b h => ?_, ⟨v, hc.cells h2 (fun h => by have := h1 G h; omega), hc.row h3 h4, fun k hk h => ?_⟩, ⟨hc.os.trans h5.os, hc.tape.trans h5.tape, hc.output.trans h5.output, Nat.le_trans hsz hc.size, fun k hk hne => ?_⟩⟩
  · rcases hS b h with h | h
    · exact h1 b h
    · omega
  · rcases hS k h with h | h
    · exact h4 k hk h
    · have := (h3.lt k hk).2; omega
  · have hkA : k < A.heap.size := by omega
    obtain ⟨o, ho⟩ : ∃ o, A.heap[k]? = some o := ⟨_, Array.getElem?_eq_getElem hkA⟩
    rw [hc.keep k o ho (fun h => by have := h1 k h; omega) (.inl (by omega)), ← ho]
    exact h5.block k hk hne
theorem gi_app {V W W' : World} {G : Nat} {v v' : Value} {ls : List Nat} {S : Nat → Prop} (hgr : V.grownBy W (some G)) (hS1 : ∀ b, S b → V.heap.size ≤ b) (hSb : ∀ b, S b → V.heap.size ≤ b ∧ b < W.heap.size) (hvS : ∀ k, v.ownBlock = some k → ¬ S k) (hrl : ∀ k, v.ownBlock = some k → V.heap.size ≤ k ∧ k < W.heap.size) (_hG : G < V.heap.size)
    (hb : Boxed W' G 22 v') (hrow : W'.ownsRow V.heap.size 28 1 v' ls.length (us ls)) (hch : ∀ (S : Nat → Prop) (base : Nat), S G → (∀ k, v.ownBlock = some k → S k) → ChgG base S W W') (hsame : ∀ (b : Nat), b < W.heap.size → b ≠ G → v.ownBlock ≠ some b → W'.heap[b]? = W.heap[b]?)
    (hown : ∀ k, v'.ownBlock = some k → v.ownBlock = some k ∨ (W.heap.size ≤ k ∧ k < W'.heap.size)) : GI V G ls S W' := by
  have hc := hch (fun _ => True) 0 trivial (fun _ _ => trivial)
  have hsz := hgr.size
  refine ⟨hS1, ⟨v', hb, hrow, fun k hk h => ?_⟩, hc.os.trans hgr.os, hc.tape.trans hgr.tape, hc.output.trans hgr.output, Nat.le_trans hsz hc.size, fun k hk hne => ?_⟩
  · rcases hown k hk with h1 | h1
    · exact hvS k h1 h
    · have := (hSb k h).2; omega
  · rw [hsame k (by omega) (fun e => hne (by rw [e])) (fun e => by have := (hrl k e).1; omega)]
    exact hgr.block k hk hne
theorem gi_own_p {W1 : World} {G base : Nat} (p : List Nat → Prop) (hG : G < W1.heap.size) (hb : W1.heap.size ≤ base) : OwnG base (fun ls S W => p ls ∧ GI W1 G ls S W) :=
  fun s S A B S' h hc hS => ⟨h.1, gi_own hG hb s S A B S' h.2 hc hS⟩
/-- A slice up to a bound, as one step of a region that draws. -/
theorem step_slice {P : Program} {ops : Array Oper} {o : Oper} {a : Act} {w : World} {K : Act → World → Prop} {Q : Exit → Act → World → Prop} {E : Prop}
    (hg : Region.wanted o (yielded ops a.tmps) = true) {t : TypeId} (hu : P.underlying t = some (.slice (P.elem t))) {s h : Operand} (hop : o.op = Op.slice t s none (some h) none)
    {v hv v' : Value} (hs : a.eval s = v) (hh : a.eval h = hv) (hrun : ∀ W, (Instr.slice t v none (some hv) none).run P W = .ok v' W)
    (hK : K (a.put o.dst v') w) : if Region.wanted o (yielded ops a.tmps) = true then Oper.wp P o a w K Q else E := by
  rw [if_pos hg]
  unfold Oper.wp
  have hr := hrun w
  rw [← run_sliceAt_slice (P := P) w t v none (some hv) none hu] at hr
  simp [execOp, hop, hs, hh, hr, Result.andThen]
  exact hK
/-- The statement 'for x := range g { .. }' in a block, whose body may break off. -/
theorem range_takeG {α : Type} {P : Program} {g : Operand} {ps : Array Tmp} {assign body : Code} {Q : Exit → Act → World → Prop} {a : Act} {w : World} {b : Nat}
    {gf : Nat} {lb : Array Value} (hg : a.eval g = .func (.func gf) #[] lb) (eg : ∀ args w, (callFunc gf args).run P w = .ok (.enter gf args) w)
    {enc : α → Value} {n₀ : Nat} {e : TypeId} {xs : List α} {w0 : World} {X : World → Prop} (hseq : SeqG P gf lb (fun x => #[enc x]) n₀ e xs w0 X) (hb0 : Below w0.heap.size w0 w) (hn₀ : n₀ ≤ w.heap.size) (hps : ps.size = 1)
    (I : List α → (Nat → Prop) → World → Prop) (Fin : (Nat → Prop) → World → Prop) (hIX : ∀ pre S W, I pre S W → X W) (hI : OwnG w.heap.size I) (hF : OwnG w.heap.size (fun (_ : Unit) S W => Fin S W)) (h0 : I [] (fun _ => False) w) (a₁ : α → Act)
    (hassign : ∀ (l : Nat) (x : α) (W : World) (K : Act → World → Prop), K (a₁ x) W →
      assign.wpIn (Fence.wide.inRound l) 0 P (Exit.then K (fun _ _ _ => False)) { tmps := (ps.zip #[enc x]).foldl (fun t (p, v) => t.setIfInBounds p v) a.tmps, defers := [] } W)
    (hbody : ∀ (l : Nat) (pre : List α) (x : α) (S : Nat → Prop) (W : World), I pre S W → (∀ b, S b → w.heap.size ≤ b ∧ b < W.heap.size) → pre ++ [x] <+: xs → body.wpIn (Fence.wide.inRound l) 0 P (rgPostG w.heap.size n₀ e I (fun c _ S W => c = .exit b ∧ Fin S W) (pre ++ [x]) S W) (a₁ x) W)
    (hfin : ∀ S W, I xs S W → Fin S W)
    (hdone : ∀ (D : Nat) (S : Nat → Prop) (W : World), w.heap.size ≤ D → Fin S W → W.heap[D]? = some (.deferred (some [])) → Q .normal { a with defers := { target := .collected D, args := #[] } :: a.defers } W) :
    (Code.rangeFunc g ps assign body).wp P (Exit.inBlock b Q) a w := by
  refine (wpIn_wide (n := 0)).1 ?_
  refine range_walkG hg eg hseq hb0 hn₀ hps I (fun c _ S W => c = .exit b ∧ Fin S W) hIX hI (fun c s S A B S' hs hc hS => ⟨hs.1, hF () S A B S' hs.2 hc hS⟩) h0 a₁ hassign hbody ?_ ?_
  · intro D S W hD hi hk
    exact hdone D S W hD (hfin S W hi) hk
  · rintro D c pre S W hD _ ⟨rfl, hF⟩ hk
    refine wpIn_wide.2 ?_
    exact wp_exit (by show (if b = b then _ else _); rw [if_pos rfl]; exact hdone D S W hD hF hk)
set_option maxRecDepth 100000 in
set_option maxHeartbeats 8000000 in
theorem searchW (v : Value) (n : Int) (mo : Nat) (w : World) (hTab : Tabs w) (hv : ∃ l, SetsIn w v l) (hmo : mo < 256) : Calls Tryd.prog 8 #[v, .int .i64 n, .int .u8 (mo : Int)] w (RetV w (.bool true)) := by
  obtain ⟨l, A, m, c, rfl, hA0, hS0, hml, hmc, hm63, _⟩ := hv
  have HTab := hide hTab
  have HA := hide hA0
  have HS : Hid (Small16 l) := hS0
  have Hm : Hid (m = l.length) := hml
  clear hTab hA0 hS0 hml
  obtain ⟨i0, hi, hz0, hz1, hz2⟩ := info_parts Tryd.info28
  obtain ⟨t, Ht⟩ : ∃ t : Nat, Hid (t = 1 + mo % 20) := ⟨_, rfl⟩
  have ht1 : 1 ≤ t := by rw [Ht.out]; omega
  have ht20 : t ≤ 20 := by rw [Ht.out]; omega
  have q20 : (1 : Int) + (mo : Int) % 20 = (t : Int) := by rw [Ht.out]; omega
  refine (callsIn_wide (n := 0)).1 (callsIn_of_wp_marks Tryd.func8 rfl trivial (wpIn_wide.2 ?_) rfl)
  simp only [Tryd.ntmps8, List.size_toArray, List.length_cons, List.length_nil, Nat.reduceAdd, Nat.reduceSub, Array.replicate_succ, Array.replicate_zero, List.push_toArray, List.append_toArray, List.nil_append, List.cons_append]
  obtain ⟨W2, hW2⟩ : ∃ W2, (w.alloc (.cells #[.slice A m c] 22)).alloc (.cells #[.int .u8 (mo : Int)] 5) = W2 := ⟨_, rfl⟩
  have hs2 : W2.heap.size = w.heap.size + 2 := by rw [← hW2]; simp
  have bl2 : Boxed W2 w.heap.size 22 (.slice A m c) := by rw [← hW2]; exact (Boxed.new w _ _).alloc _
  have bm2 : Boxed W2 (w.heap.size + 1) 5 (.int .u8 (mo : Int)) := by
    rw [← hW2]
    have := Boxed.new (w.alloc (.cells #[.slice A m c] 22)) 5 (.int .u8 (mo : Int))
    rwa [World.size_alloc] at this
  have hup2 : Up w W2 := by rw [← hW2]; exact ((Up.refl w).alloc _).alloc _
  go_wp2_with fail

  clear hW2
  refine (awake_any W2 (HTab.out.up hup2)).mono ?_
  rintro e3 W3 ⟨rfl, hu3⟩
  have hs3 := hu3.size
  have bl3 : Boxed W3 w.heap.size 22 (.slice A m c) := (hu3.block _ (by omega)).trans bl2
  have bm3 : Boxed W3 (w.heap.size + 1) 5 (.int .u8 (mo : Int)) := (hu3.block _ (by omega)).trans bm2
  have hup3 := hup2.trans hu3
  clear hup2 hu3 bl2 bm2
  have cl3 := bl3.cell
  have cm3 := bm3.cell
  by_cases hbad : (7 < n ∧ n ≤ 12) ∨ 20 < m
  · by_cases h7 : 7 < n ∧ n ≤ 12
    · have d1 : decide (7 < n) = true := decide_eq_true h7.1
      have d2 : decide (n ≤ 12) = true := decide_eq_true h7.2
      clear hbad h7
      go_wp2_with fail
      refine (awake_any W3 (HTab.out.up hup3)).mono ?_
      rintro e4 W4 ⟨rfl, hu4⟩
      go_wp2
      exact ⟨_, results_tmp rfl _ _ _, rfl, hup3.trans hu4⟩
    · have d3 : decide (20 < (m : Int)) = true := decide_eq_true (by omega)
      by_cases h8 : 7 < n
      · have d1 : decide (7 < n) = true := decide_eq_true h8
        have d2 : decide (n ≤ 12) = false := decide_eq_false (by omega)
        clear hbad h7 h8
        go_wp2_with fail
        refine (awake_any W3 (HTab.out.up hup3)).mono ?_
        rintro e4 W4 ⟨rfl, hu4⟩
        go_wp2
        exact ⟨_, results_tmp rfl _ _ _, rfl, hup3.trans hu4⟩
      · have d1 : decide (7 < n) = false := decide_eq_false h8
        clear hbad h7 h8
        go_wp2_with fail
        refine (awake_any W3 (HTab.out.up hup3)).mono ?_
        rintro e4 W4 ⟨rfl, hu4⟩
        go_wp2
        exact ⟨_, results_tmp rfl _ _ _, rfl, hup3.trans hu4⟩
  · have hm20 : m ≤ 20 := by omega
    have d3 : decide (20 < (m : Int)) = false := decide_eq_false (by omega)
    have hn : n < 0 ∨ 12 < n ∨ ∃ k : Nat, n = k ∧ k ≤ 7 := by
      rcases (show n < 0 ∨ 12 < n ∨ (0 ≤ n ∧ n ≤ 7) by omega) with h | h | h
      · exact .inl h
      · exact .inr (.inl h)
      · exact .inr (.inr ⟨n.toNat, by omega, by omega⟩)
    clear hbad
    rcases hn with hn | hn | ⟨n, rfl, hn⟩
    · have d1 : decide (7 < n) = false := decide_eq_false (by omega)
      have d5 : decide (0 ≤ n) = false := decide_eq_false (by omega)
      have hfs : (fullS n).2 ≠ 0 := by unfold fullS; rw [if_pos (Or.inl hn)]; simp
      clear hn
      go_wp2_with fail
      refine (callsIn_wide.1 (search_any n (.func 34) w.heap.size _)).mono ?_
      rintro e5 W5 ⟨rfl, rfl⟩
      go_wp2_with fail
      obtain ⟨V, hV⟩ : ∃ V, ((W3.alloc (.cells #[.slice none 0 0] 22)).alloc (.cells #[.int .i64 n] 3)).alloc (.cells #[.func (.func 34) #[] #[.pointer (some ⟨w.heap.size, 0, none⟩)]] 42) = V := ⟨_, rfl⟩
      rw [hV]
      have hupV : Up w V := by rw [← hV]; exact ((hup3.alloc _).alloc _).alloc _
      have hu3V : Up W3 V := by rw [← hV]; exact (((Up.refl W3).alloc _).alloc _).alloc _
      have blV : Boxed V w.heap.size 22 (.slice A m c) := (hu3V.block _ bl3.lt).trans bl3
      have bmV : Boxed V (w.heap.size + 1) 5 (.int .u8 (mo : Int)) := (hu3V.block _ bm3.lt).trans bm3
      have bGV : Boxed V W3.heap.size 22 (.slice none 0 0) := by rw [← hV]; exact ((Boxed.new W3 _ _).alloc _).alloc _
      have bNV : Boxed V (W3.heap.size + 1) 3 (.int .i64 n) := by
        rw [← hV]
        have := Boxed.new (W3.alloc (.cells #[.slice none 0 0] 22)) 3 (.int .i64 n)
        rw [World.size_alloc] at this
        exact this.alloc _
      have bFV : Boxed V (W3.heap.size + 1 + 1) 42 (.func (.func 34) #[] #[.pointer (some ⟨w.heap.size, 0, none⟩)]) := by
        rw [← hV]
        have := Boxed.new ((W3.alloc (.cells #[.slice none 0 0] 22)).alloc (.cells #[.int .i64 n] 3)) 42 (.func (.func 34) #[] #[.pointer (some ⟨w.heap.size, 0, none⟩)])
        rw [World.size_alloc, World.size_alloc] at this
        exact this
      have hsV : V.heap.size = W3.heap.size + 3 := by rw [← hV]; simp
      obtain ⟨G, hG⟩ : ∃ G, W3.heap.size = G := ⟨_, rfl⟩
      rw [hG] at bGV bNV bFV hsV hs3 ⊢
      clear hV hG hu3V bl3 bm3 cl3 cm3 hup3
      have hAV : ∀ W, V.grownBy W (some G) → Vals W A (us l) := fun W hg => vals_skip HA.out hupV hg (by omega)
      refine range_takeG (b := 0) (gf := 56) (lb := #[.pointer (some ⟨G + 1, 0, none⟩), .pointer (some ⟨G + 1 + 1, 0, none⟩)]) rfl (enters_of Tryd.func56 (by kernel_rfl) rfl) (search_bad (G + 1) (G + 1 + 1) w.heap.size G n A m c l V hfs) (Below.refl _ _) (by omega) rfl
        (fun pre S W => pre.length < t ∧ GI V G pre S W) (fun S W => GI V G [] S W) ?hIX (gi_own_p (fun pre => pre.length < t) (by omega) (Nat.le_refl _)) (fun s S A B S' h hc hS => gi_own (by omega) (Nat.le_refl _) _ S A B S' h hc hS) ?h0
        (fun x => { tmps := #[.slice A m c, .int .i64 n, .int .u8 (mo : Int), .pointer (some ⟨w.heap.size, 0, none⟩), undef, .pointer (some ⟨w.heap.size + 1, 0, none⟩), .bool false, .pointer (some ⟨G, 0, none⟩), .slice none 0 0, .int .u16 (x : Int), undef, undef, .bool true, .bool false, .bool false, .int .i64 n, .bool false, .bool false, undef, undef, .bool false, .bool false, .bool false, .slice A m c, .int .i64 (m : Int), .bool false, .bool false, undef, .int .i64 n, .func (.func 34) #[] #[.pointer (some ⟨w.heap.size, 0, none⟩)], .func (.func 56) #[] #[.pointer (some ⟨G + 1, 0, none⟩), .pointer (some ⟨G + 1 + 1, 0, none⟩)], .int .u16 (x : Int), undef, undef, undef, undef, undef, undef, undef, undef, undef, undef, undef, undef, undef, undef, undef, undef, undef, undef, undef, undef, undef, undef, undef, undef, undef, undef, undef, undef, undef, undef, undef, undef, undef, undef, undef, undef, undef, undef, undef, undef, undef, undef, undef, undef, undef, undef, undef, undef, undef], defers := [] })
        ?assign ?body ?fin ?done
      case hIX =>
        rintro pre S W ⟨_, _, _, hg⟩
        exact ⟨(hg.block _ bNV.lt (by simp)).trans bNV, (hg.block _ bFV.lt (by simp; omega)).trans bFV, (hg.block _ blV.lt (by simp; omega)).trans blV, hAV W hg⟩
      case h0 => exact ⟨by simp; omega, fun b h => h.elim, ⟨_, bGV, World.ownsRow_nil _ _ _ _, fun k hk => by simp [Value.ownBlock] at hk⟩, World.grownBy.refl _ _⟩
      case assign =>
        intro l2 x W K2 hK2
        dsimp only [svE]
        gi_wp2
        exact hK2
      case fin =>
        rintro S W ⟨h1, h2⟩
        exact h2
      case body =>
        rintro l2 pre x S W _ _ hpre
        have := hpre.length_le
        simp at this
      case done =>
        rintro D S W4 hD ⟨hS1, ⟨v, hv, hrow, hvS⟩, hgr⟩ hK
        have hszg := hgr.size
        have hDlt : D < W4.heap.size := (Array.getElem?_eq_some_iff.1 hK).1
        have bm4 : Boxed W4 (w.heap.size + 1) 5 (.int .u8 (mo : Int)) := (hgr.block _ bmV.lt (by simp; omega)).trans bmV
        have hup4 : Up w W4 := hupV.grown hgr (fun k e => by cases e; omega)
        obtain ⟨Aa, ca, rfl, hca, hVa, _, _⟩ := own_vals hrow
        have cG6 := hv.cell
        have cm6 := bm4.cell
        dsimp only [List.length_nil] at cG6
        have eq := fun w' hu => equal_any Aa none 0 ca 0 0 [] [] w' (Vals.up hVa hu) (Or.inl rfl) rfl rfl (by omega) (by omega)
        simp only [decide_true] at eq
        have hus : Hid (Tryd.prog.underlying 22 = some (.slice (Tryd.prog.elem 22))) := by show _ = _; rw [show Tryd.prog.elem 22 = 28 by kernel_rfl]; exact Tryd.underlying22
        have sl := fun W => slice_to none 0 0 0 (by omega) W
        have wt : IntKind.i64.wrap (1 + IntKind.i64.wrap ((mo : Int).tmod 20)) = (t : Int) := by
          have e1 : (mo : Int).tmod 20 = (mo : Int) % 20 := Int.tmod_eq_emod_of_nonneg (by omega)
          have e2 : IntKind.i64.wrap ((mo : Int) % 20) = (mo : Int) % 20 := by rw [IntKind.wrap_i64]; omega
          rw [e1, e2, q20, IntKind.wrap_i64]
          omega
        have ja : Hid ((if IntKind.i64.wrap (1 + IntKind.i64.wrap ((mo : Int).tmod 20)) < 0 then IntKind.i64.wrap (1 + IntKind.i64.wrap ((mo : Int).tmod 20)) else 0) = ((0 : Nat) : Int)) := by
          show _ = _
          rw [wt]
          split <;> omega
        have hupA : Up W4 W4.drew := (Up.refl W4).drew
        clear wt q20 hVa hrow hvS hS1 hv bm4
        go_wp2_with fail
        go_region_held3 (fun w' => w'.cell? ⟨G, 0, none⟩ = some (.slice Aa 0 ca) ∧ w'.cell? ⟨w.heap.size + 1, 0, none⟩ = some (.int .u8 (mo : Int)))
          (exact ⟨up_keep hupA cG6, up_keep hupA cm6⟩)
          (first
            | (refine step_min2 (by rfl) rfl (x := 0) (y := IntKind.i64.wrap (1 + IntKind.i64.wrap ((mo : Int).tmod 20))) (z := ((0 : Nat) : Int)) rfl rfl ja.out ?_)
            | (go_at_call 18; refine (eq _ hupA).mono ?_; rintro e w9 ⟨rfl, hup9⟩; replace hupA := hupA.trans hup9; clear eq))
        have hszu := hupA.size
        go_wp2_with fail
        exact leave_marks (lo := w.heap.size) (Z := fun W' => Up w W') (fun A b o o' hb hl ho hz => hz.grown (grownBy_putObj' A b o') (fun k e => by cases e; omega)) (fun W' hz => ⟨_, results_tmp rfl _ _ _, rfl, hz⟩) _ _ _ ⟨D, Nat.lt_of_lt_of_le hDlt hszu, by omega, rfl, (hupA.block D hDlt).trans hK, trivial⟩ (hup4.trans hupA)
    · have d1 : decide (7 < n) = true := decide_eq_true (by omega)
      have d2 : decide (n ≤ 12) = false := decide_eq_false (by omega)
      have d5 : decide (0 ≤ n) = true := decide_eq_true (by omega)
      have d6 : decide (n ≤ 7) = false := decide_eq_false (by omega)
      have hfs : (fullS n).2 ≠ 0 := by unfold fullS; rw [if_pos (Or.inr hn)]; simp
      clear hn
      go_wp2_with fail
      refine (callsIn_wide.1 (search_any n (.func 34) w.heap.size _)).mono ?_
      rintro e5 W5 ⟨rfl, rfl⟩
      go_wp2_with fail
      obtain ⟨V, hV⟩ : ∃ V, ((W3.alloc (.cells #[.slice none 0 0] 22)).alloc (.cells #[.int .i64 n] 3)).alloc (.cells #[.func (.func 34) #[] #[.pointer (some ⟨w.heap.size, 0, none⟩)]] 42) = V := ⟨_, rfl⟩
      rw [hV]
      have hupV : Up w V := by rw [← hV]; exact ((hup3.alloc _).alloc _).alloc _
      have hu3V : Up W3 V := by rw [← hV]; exact (((Up.refl W3).alloc _).alloc _).alloc _
      have blV : Boxed V w.heap.size 22 (.slice A m c) := (hu3V.block _ bl3.lt).trans bl3
      have bmV : Boxed V (w.heap.size + 1) 5 (.int .u8 (mo : Int)) := (hu3V.block _ bm3.lt).trans bm3
      have bGV : Boxed V W3.heap.size 22 (.slice none 0 0) := by rw [← hV]; exact ((Boxed.new W3 _ _).alloc _).alloc _
      have bNV : Boxed V (W3.heap.size + 1) 3 (.int .i64 n) := by
        rw [← hV]
        have := Boxed.new (W3.alloc (.cells #[.slice none 0 0] 22)) 3 (.int .i64 n)
        rw [World.size_alloc] at this
        exact this.alloc _
      have bFV : Boxed V (W3.heap.size + 1 + 1) 42 (.func (.func 34) #[] #[.pointer (some ⟨w.heap.size, 0, none⟩)]) := by
        rw [← hV]
        have := Boxed.new ((W3.alloc (.cells #[.slice none 0 0] 22)).alloc (.cells #[.int .i64 n] 3)) 42 (.func (.func 34) #[] #[.pointer (some ⟨w.heap.size, 0, none⟩)])
        rw [World.size_alloc, World.size_alloc] at this
        exact this
      have hsV : V.heap.size = W3.heap.size + 3 := by rw [← hV]; simp
      obtain ⟨G, hG⟩ : ∃ G, W3.heap.size = G := ⟨_, rfl⟩
      rw [hG] at bGV bNV bFV hsV hs3 ⊢
      clear hV hG hu3V bl3 bm3 cl3 cm3 hup3
      have hAV : ∀ W, V.grownBy W (some G) → Vals W A (us l) := fun W hg => vals_skip HA.out hupV hg (by omega)
      refine range_takeG (b := 0) (gf := 56) (lb := #[.pointer (some ⟨G + 1, 0, none⟩), .pointer (some ⟨G + 1 + 1, 0, none⟩)]) rfl (enters_of Tryd.func56 (by kernel_rfl) rfl) (search_bad (G + 1) (G + 1 + 1) w.heap.size G n A m c l V hfs) (Below.refl _ _) (by omega) rfl
        (fun pre S W => pre.length < t ∧ GI V G pre S W) (fun S W => GI V G [] S W) ?hIX (gi_own_p (fun pre => pre.length < t) (by omega) (Nat.le_refl _)) (fun s S A B S' h hc hS => gi_own (by omega) (Nat.le_refl _) _ S A B S' h hc hS) ?h0
        (fun x => { tmps := #[.slice A m c, .int .i64 n, .int .u8 (mo : Int), .pointer (some ⟨w.heap.size, 0, none⟩), undef, .pointer (some ⟨w.heap.size + 1, 0, none⟩), .bool false, .pointer (some ⟨G, 0, none⟩), .slice none 0 0, .int .u16 (x : Int), undef, undef, .bool true, .bool false, .bool false, .int .i64 n, .bool true, .bool true, .int .i64 n, .bool false, .bool false, .bool false, .bool false, .slice A m c, .int .i64 (m : Int), .bool false, .bool false, undef, .int .i64 n, .func (.func 34) #[] #[.pointer (some ⟨w.heap.size, 0, none⟩)], .func (.func 56) #[] #[.pointer (some ⟨G + 1, 0, none⟩), .pointer (some ⟨G + 1 + 1, 0, none⟩)], .int .u16 (x : Int), undef, undef, undef, undef, undef, undef, undef, undef, undef, undef, undef, undef, undef, undef, undef, undef, undef, undef, undef, undef, undef, undef, undef, undef, undef, undef, undef, undef, undef, undef, undef, undef, undef, undef, undef, undef, undef, undef, undef, undef, undef, undef, undef, undef, undef, undef, undef, undef, undef], defers := [] })
        ?assign ?body ?fin ?done
      case hIX =>
        rintro pre S W ⟨_, _, _, hg⟩
        exact ⟨(hg.block _ bNV.lt (by simp)).trans bNV, (hg.block _ bFV.lt (by simp; omega)).trans bFV, (hg.block _ blV.lt (by simp; omega)).trans blV, hAV W hg⟩
      case h0 => exact ⟨by simp; omega, fun b h => h.elim, ⟨_, bGV, World.ownsRow_nil _ _ _ _, fun k hk => by simp [Value.ownBlock] at hk⟩, World.grownBy.refl _ _⟩
      case assign =>
        intro l2 x W K2 hK2
        dsimp only [svE]
        gi_wp2
        exact hK2
      case fin =>
        rintro S W ⟨h1, h2⟩
        exact h2
      case body =>
        rintro l2 pre x S W _ _ hpre
        have := hpre.length_le
        simp at this
      case done =>
        rintro D S W4 hD ⟨hS1, ⟨v, hv, hrow, hvS⟩, hgr⟩ hK
        have hszg := hgr.size
        have hDlt : D < W4.heap.size := (Array.getElem?_eq_some_iff.1 hK).1
        have bm4 : Boxed W4 (w.heap.size + 1) 5 (.int .u8 (mo : Int)) := (hgr.block _ bmV.lt (by simp; omega)).trans bmV
        have hup4 : Up w W4 := hupV.grown hgr (fun k e => by cases e; omega)
        obtain ⟨Aa, ca, rfl, hca, hVa, _, _⟩ := own_vals hrow
        have cG6 := hv.cell
        have cm6 := bm4.cell
        dsimp only [List.length_nil] at cG6
        have eq := fun w' hu => equal_any Aa none 0 ca 0 0 [] [] w' (Vals.up hVa hu) (Or.inl rfl) rfl rfl (by omega) (by omega)
        simp only [decide_true] at eq
        have hus : Hid (Tryd.prog.underlying 22 = some (.slice (Tryd.prog.elem 22))) := by show _ = _; rw [show Tryd.prog.elem 22 = 28 by kernel_rfl]; exact Tryd.underlying22
        have sl := fun W => slice_to none 0 0 0 (by omega) W
        have wt : IntKind.i64.wrap (1 + IntKind.i64.wrap ((mo : Int).tmod 20)) = (t : Int) := by
          have e1 : (mo : Int).tmod 20 = (mo : Int) % 20 := Int.tmod_eq_emod_of_nonneg (by omega)
          have e2 : IntKind.i64.wrap ((mo : Int) % 20) = (mo : Int) % 20 := by rw [IntKind.wrap_i64]; omega
          rw [e1, e2, q20, IntKind.wrap_i64]
          omega
        have ja : Hid ((if IntKind.i64.wrap (1 + IntKind.i64.wrap ((mo : Int).tmod 20)) < 0 then IntKind.i64.wrap (1 + IntKind.i64.wrap ((mo : Int).tmod 20)) else 0) = ((0 : Nat) : Int)) := by
          show _ = _
          rw [wt]
          split <;> omega
        have hupA : Up W4 W4.drew := (Up.refl W4).drew
        clear wt q20 hVa hrow hvS hS1 hv bm4
        go_wp2_with fail
        go_region_held3 (fun w' => w'.cell? ⟨G, 0, none⟩ = some (.slice Aa 0 ca) ∧ w'.cell? ⟨w.heap.size + 1, 0, none⟩ = some (.int .u8 (mo : Int)))
          (exact ⟨up_keep hupA cG6, up_keep hupA cm6⟩)
          (first
            | (refine step_min2 (by rfl) rfl (x := 0) (y := IntKind.i64.wrap (1 + IntKind.i64.wrap ((mo : Int).tmod 20))) (z := ((0 : Nat) : Int)) rfl rfl ja.out ?_)
            | (go_at_call 18; refine (eq _ hupA).mono ?_; rintro e w9 ⟨rfl, hup9⟩; replace hupA := hupA.trans hup9; clear eq))
        have hszu := hupA.size
        go_wp2_with fail
        exact leave_marks (lo := w.heap.size) (Z := fun W' => Up w W') (fun A b o o' hb hl ho hz => hz.grown (grownBy_putObj' A b o') (fun k e => by cases e; omega)) (fun W' hz => ⟨_, results_tmp rfl _ _ _, rfl, hz⟩) _ _ _ ⟨D, Nat.lt_of_lt_of_le hDlt hszu, by omega, rfl, (hupA.block D hDlt).trans hK, trivial⟩ (hup4.trans hupA)
    · have d1 : decide (7 < (n : Int)) = false := decide_eq_false (by omega)
      go_wp2_with fail
      refine (callsIn_wide.1 (search_any (n : Int) (.func 34) w.heap.size _)).mono ?_
      rintro e5 W5 ⟨rfl, rfl⟩
      go_wp2_with fail
      obtain ⟨V, hV⟩ : ∃ V, ((W3.alloc (.cells #[.slice none 0 0] 22)).alloc (.cells #[.int .i64 (n : Int)] 3)).alloc (.cells #[.func (.func 34) #[] #[.pointer (some ⟨w.heap.size, 0, none⟩)]] 42) = V := ⟨_, rfl⟩
      rw [hV]
      have hupV : Up w V := by rw [← hV]; exact ((hup3.alloc _).alloc _).alloc _
      have hu3V : Up W3 V := by rw [← hV]; exact (((Up.refl W3).alloc _).alloc _).alloc _
      have blV : Boxed V w.heap.size 22 (.slice A m c) := (hu3V.block _ bl3.lt).trans bl3
      have bmV : Boxed V (w.heap.size + 1) 5 (.int .u8 (mo : Int)) := (hu3V.block _ bm3.lt).trans bm3
      have bGV : Boxed V W3.heap.size 22 (.slice none 0 0) := by rw [← hV]; exact ((Boxed.new W3 _ _).alloc _).alloc _
      have bNV : Boxed V (W3.heap.size + 1) 3 (.int .i64 (n : Int)) := by
        rw [← hV]
        have := Boxed.new (W3.alloc (.cells #[.slice none 0 0] 22)) 3 (.int .i64 (n : Int))
        rw [World.size_alloc] at this
        exact this.alloc _
      have bFV : Boxed V (W3.heap.size + 1 + 1) 42 (.func (.func 34) #[] #[.pointer (some ⟨w.heap.size, 0, none⟩)]) := by
        rw [← hV]
        have := Boxed.new ((W3.alloc (.cells #[.slice none 0 0] 22)).alloc (.cells #[.int .i64 (n : Int)] 3)) 42 (.func (.func 34) #[] #[.pointer (some ⟨w.heap.size, 0, none⟩)])
        rw [World.size_alloc, World.size_alloc] at this
        exact this
      have hsV : V.heap.size = W3.heap.size + 3 := by rw [← hV]; simp
      obtain ⟨G, hG⟩ : ∃ G, W3.heap.size = G := ⟨_, rfl⟩
      rw [hG] at bGV bNV bFV hsV hs3 ⊢
      clear hV hG hu3V bl3 bm3 cl3 cm3 hup3
      have hAV : ∀ W, V.grownBy W (some G) → Vals W A (us l) := fun W hg => vals_skip HA.out hupV hg (by omega)
      obtain ⟨L, HL⟩ : ∃ L, Hid (L = allL n) := ⟨_, rfl⟩
      obtain ⟨Z, HZ⟩ : ∃ Z, Hid (Z = sea l L) := ⟨_, rfl⟩
      have hseq := search_seq (G + 1) (G + 1 + 1) w.heap.size G n A m c l V hn Hm HS (by omega) (by omega)
      have hrall := fun w => rall_any n w hn
      have hL7 := allL_len7 ⟨n, by omega⟩
      dsimp only at hL7
      have HL16 : Hid (Small16 L) := by
        intro x hx
        rw [HL.out] at hx
        have h1 := allL_lt x hx
        have : 2 ^ n ≤ 2 ^ 7 := Nat.pow_le_pow_right (by omega) hn
        omega
      rw [← HL.out] at hseq hrall hL7
      rw [← HZ.out] at hseq
      refine range_takeG (b := 0) (gf := 56) (lb := #[.pointer (some ⟨G + 1, 0, none⟩), .pointer (some ⟨G + 1 + 1, 0, none⟩)]) rfl (enters_of Tryd.func56 (by kernel_rfl) rfl) hseq (Below.refl _ _) (by omega) rfl
        (fun pre S W => pre.length < t ∧ GI V G pre S W) (fun S W => GI V G (Z.take t) S W) ?hIX (gi_own_p (fun pre => pre.length < t) (by omega) (Nat.le_refl _)) (fun s S A B S' h hc hS => gi_own (by omega) (Nat.le_refl _) _ S A B S' h hc hS) ?h0
        (fun x => { tmps := #[.slice A m c, .int .i64 (n : Int), .int .u8 (mo : Int), .pointer (some ⟨w.heap.size, 0, none⟩), undef, .pointer (some ⟨w.heap.size + 1, 0, none⟩), .bool false, .pointer (some ⟨G, 0, none⟩), .slice none 0 0, .int .u16 (x : Int), undef, undef, .bool true, .bool false, .bool false, .int .i64 (n : Int), .bool false, .bool false, undef, undef, .bool false, .bool false, .bool false, .slice A m c, .int .i64 (m : Int), .bool false, .bool false, undef, .int .i64 (n : Int), .func (.func 34) #[] #[.pointer (some ⟨w.heap.size, 0, none⟩)], .func (.func 56) #[] #[.pointer (some ⟨G + 1, 0, none⟩), .pointer (some ⟨G + 1 + 1, 0, none⟩)], .int .u16 (x : Int), undef, undef, undef, undef, undef, undef, undef, undef, undef, undef, undef, undef, undef, undef, undef, undef, undef, undef, undef, undef, undef, undef, undef, undef, undef, undef, undef, undef, undef, undef, undef, undef, undef, undef, undef, undef, undef, undef, undef, undef, undef, undef, undef, undef, undef, undef, undef, undef, undef], defers := [] })
        ?assign ?body ?fin ?done
      case hIX =>
        rintro pre S W ⟨_, _, _, hg⟩
        exact ⟨(hg.block _ bNV.lt (by simp)).trans bNV, (hg.block _ bFV.lt (by simp; omega)).trans bFV, (hg.block _ blV.lt (by simp; omega)).trans blV, hAV W hg⟩
      case h0 => exact ⟨by simp; omega, fun b h => h.elim, ⟨_, bGV, World.ownsRow_nil _ _ _ _, fun k hk => by simp [Value.ownBlock] at hk⟩, World.grownBy.refl _ _⟩
      case assign =>
        intro l2 x W K2 hK2
        dsimp only [svE]
        gi_wp2
        exact hK2
      case fin =>
        rintro S W ⟨h1, h2⟩
        rw [List.take_of_length_le (by omega)]
        exact h2
      case body =>
        rintro l2 pre x S W ⟨hpt, hS1, ⟨v, hv, hrow, hvS⟩, hgr⟩ hSb hpre
        have cM0 : Boxed W (w.heap.size + 1) 5 (.int .u8 (mo : Int)) := (hgr.block _ bmV.lt (by simp; omega)).trans bmV
        have hsz := hgr.size
        obtain ⟨q, hq⟩ : ∃ q, pre.length = q := ⟨_, rfl⟩
        rw [hq] at hrow hpt
        obtain ⟨A1, c1, rfl, _, _, _, _⟩ := own_vals hrow
        have cG := hv.cell
        have hrl : ∀ k, (Value.slice A1 q c1).ownBlock = some k → V.heap.size ≤ k ∧ k < W.heap.size := fun k hk => hrow.lt k hk
        have hap := row_app (x := x) (n₀ := G) hv hrow (by omega) (Nat.le_refl _) (by omega)
        dsimp only [svE]
        by_cases hqt : q + 1 = t
        · have d4 : (((q : Int) + 1) == (t : Int)) = true := by rw [beq_iff_eq]; omega
          have hZ : pre ++ [x] = Z.take t := by rw [← hqt, ← hq]; have := List.prefix_iff_eq_take.1 hpre; simpa using this
          clear hqt
          gi_wp2_with (gi_at_builtin; refine wpListIn_append_at _ rfl _ _ 22 rfl V.heap.size 28 i0 (.int .u16 0) 1 2 Tryd.underlying22 hi hz0 hz1 hz2 rfl (by decide) _ _ _ rfl (hrow.alloc _) ⟨W.heap.size, 0, none⟩ 1 1 (us [x]) rfl rfl (cell_one_new _ _ _) (by simp [us, Value.oneCell', sv]) (by simp [maxLen]; omega) (by omega) (by simp; omega) ?_; intro v' w9 hown' hgrow hat; obtain ⟨g', cap', rfl⟩ := ownsRow_succ hown'; obtain ⟨hv1, hfin⟩ := hap _ _ hown' hgrow hat; have hc1 := hv1.cell; have hf1 := hv1.frozen; have cm1 : (w9.setCell ⟨G, 0, none⟩ (.slice (some ⟨g', 0, none⟩) (q + 1) cap')).cell? ⟨w.heap.size + 1, 0, none⟩ = some (.int .u8 (mo : Int)) := Boxed.cell (t := 5) ((hfin.2.2.2.2.1 (w.heap.size + 1) (by omega) (by omega) (fun e => by have := hrl _ e; omega)).trans cM0); clear hown' hgrow hat)
          refine ⟨hfin.1, fun b hb => hfin.2.2.2.2.1 b (hSb b hb).2 (fun e => by have := (hSb b hb).1; omega) (fun e => hvS b e hb), rfl, ?_⟩
          rw [← hZ]
          exact gi_app hgr hS1 hSb hvS hrl (by omega) hfin.2.1 (by rw [List.length_append, hq, us_append]; exact hfin.2.2.1) hfin.2.2.2.1 hfin.2.2.2.2.1 hfin.2.2.2.2.2
        · have d4 : (((q : Int) + 1) == (t : Int)) = false := by rw [beq_eq_false_iff_ne]; omega
          have hqt2 : q + 1 < t := by omega
          clear hqt
          gi_wp2_with (gi_at_builtin; refine wpListIn_append_at _ rfl _ _ 22 rfl V.heap.size 28 i0 (.int .u16 0) 1 2 Tryd.underlying22 hi hz0 hz1 hz2 rfl (by decide) _ _ _ rfl (hrow.alloc _) ⟨W.heap.size, 0, none⟩ 1 1 (us [x]) rfl rfl (cell_one_new _ _ _) (by simp [us, Value.oneCell', sv]) (by simp [maxLen]; omega) (by omega) (by simp; omega) ?_; intro v' w9 hown' hgrow hat; obtain ⟨g', cap', rfl⟩ := ownsRow_succ hown'; obtain ⟨hv1, hfin⟩ := hap _ _ hown' hgrow hat; have hc1 := hv1.cell; have hf1 := hv1.frozen; have cm1 : (w9.setCell ⟨G, 0, none⟩ (.slice (some ⟨g', 0, none⟩) (q + 1) cap')).cell? ⟨w.heap.size + 1, 0, none⟩ = some (.int .u8 (mo : Int)) := Boxed.cell (t := 5) ((hfin.2.2.2.2.1 (w.heap.size + 1) (by omega) (by omega) (fun e => by have := hrl _ e; omega)).trans cM0); clear hown' hgrow hat)
          refine ⟨hfin.1, fun b hb => hfin.2.2.2.2.1 b (hSb b hb).2 (fun e => by have := (hSb b hb).1; omega) (fun e => hvS b e hb), by rw [List.length_append, hq]; simp; omega, ?_⟩
          exact gi_app hgr hS1 hSb hvS hrl (by omega) hfin.2.1 (by rw [List.length_append, hq, us_append]; exact hfin.2.2.1) hfin.2.2.2.1 hfin.2.2.2.2.1 hfin.2.2.2.2.2
      case done =>
        rintro D S W4 hD ⟨hS1, ⟨v, hv, hrow, hvS⟩, hgr⟩ hK
        go_wp2_with fail
        refine (hrall W4).mono ?_
        rintro e5 W5 ⟨v5, rfl, hown5, hu5⟩
        obtain ⟨A5, c5, rfl, hc5, hV5, _, _⟩ := own_vals hown5
        have hup5 : Up w W5 := (hupV.grown hgr (fun k e => by cases e; omega)).trans hu5
        have hK5 : W5.heap[D]? = some (.deferred (some [])) := (hu5.block D (Array.getElem?_eq_some_iff.1 hK).1).trans hK
        have hDlt : D < W5.heap.size := (Array.getElem?_eq_some_iff.1 hK5).1
        have hsz4 := hgr.size
        have hsz5 := hu5.size
        have bl5 : Boxed W5 w.heap.size 22 (.slice A m c) := (hu5.block _ (by omega)).trans ((hgr.block _ blV.lt (by simp; omega)).trans blV)
        have bm5 : Boxed W5 (w.heap.size + 1) 5 (.int .u8 (mo : Int)) := (hu5.block _ (by omega)).trans ((hgr.block _ bmV.lt (by simp; omega)).trans bmV)
        have bG5 : Boxed W5 G 22 v := (hu5.block _ hv.lt).trans hv
        have hA5 := (hAV W4 hgr).up hu5
        have hrow5 := own_up hrow hu5
        obtain ⟨N, hN⟩ : ∃ N, L.length = N := ⟨_, rfl⟩
        have HN : Hid (N = L.length) := hN.symm
        rw [hN] at hL7 hc5 ⊢
        clear hN hown5 hseq hrall hv hrow hgr hAV hK bGV bNV bFV blV bmV hupV hu5 hS1 hvS
        go_wp2_with fail
        refine wp_loop (fun a wr => ∃ (j q : Nat) (ls : List Nat) (v8 : Value), j ≤ N ∧ q ≤ j ∧ (∃ uz : Nat → Value, a.tmps = #[.slice A m c, .int .i64 (n : Int), .int .u8 (mo : Int), .pointer (some ⟨w.heap.size, 0, none⟩), undef, .pointer (some ⟨w.heap.size + 1, 0, none⟩), .bool false, .pointer (some ⟨G, 0, none⟩), v8, undef, undef, uz 11, .bool true, .bool false, .bool false, .int .i64 (n : Int), .bool false, .bool false, undef, undef, .bool false, .bool false, .bool false, .slice A m c, .int .i64 (m : Int), .bool false, .bool false, undef, .int .i64 (n : Int), .func (.func 34) #[] #[.pointer (some ⟨w.heap.size, 0, none⟩)], .func (.func 56) #[] #[.pointer (some ⟨G + 1, 0, none⟩), .pointer (some ⟨G + 1 + 1, 0, none⟩)], undef, undef, undef, undef, undef, undef, undef, undef, undef, undef, undef, undef, .int .i64 (n : Int), .bool true, .bool true, .int .i64 (n : Int), .bool true, .bool true, .int .i64 (n : Int), .slice A5 N c5, .int .i64 (N : Int), .int .i64 (j : Int), uz 53, uz 54, uz 55, uz 56, uz 57, uz 58, uz 59, uz 60, uz 61, uz 62, uz 63, uz 64, uz 65, uz 66, uz 67, uz 68, uz 69, uz 70, uz 71, uz 72, uz 73, uz 74, uz 75, uz 76, uz 77, uz 78, uz 79, uz 80]) ∧ a.defers = [{ target := .collected D, args := #[] }] ∧ wr.ownsRow W5.heap.size 28 1 v8 q (us ls) ∧ Hid (ls = sea l (L.take j)) ∧ Up W5 wr) (fun a _ => N - (intOf (a.tmps.getD 52 undef)).toNat) ?_ ?_
        · exact ⟨0, 0, [], .slice none 0 0, by omega, by omega, mk_us rfl, rfl, World.ownsRow_nil _ _ _ _, rfl, Up.refl _⟩
        · rintro ⟨tm, ds⟩ wr ⟨j, q, ls, v8, hj, hq, ⟨uz, hT⟩, hds, hown, HLS, hup⟩
          dsimp only at hT hds
          subst hT
          subst hds
          have hszr := hup.size
          by_cases hlt : j < N
          · have hk1 : j < L.length := by rw [← HN.out]; exact hlt
            obtain ⟨x, Hx⟩ : ∃ x, Hid (x = L[j]'hk1) := ⟨_, rfl⟩
            have hx16 : x < 65536 := by rw [Hx.out]; exact HL16.out _ (List.getElem_mem hk1)
            have hvx := us_at hk1
            rw [← Hx.out] at hvx
            obtain ⟨ad, hAd, hbk, hcell⟩ := (hV5.up hup).at_ hvx
            subst hAd
            have hls16 : Hid (Small16 ls) := by
              intro z hz
              rw [HLS.out] at hz
              exact HL16.out z (List.mem_of_mem_take (sea_mem l _ z hz))
            have HST : Hid (sea l (L.take (j + 1)) = if acc ls x || !acc l x then ls else ls ++ [x]) := by
              show _ = _
              rw [take_snoc hk1, ← Hx.out, sea_snoc, ← HLS.out]
            obtain ⟨A8, c8, rfl, hc8, hV8, _, _⟩ := own_vals hown
            have hql : Hid (q = ls.length) := (own_len hown).symm
            have r1 := racc_any A m c l x wr (hA5.up hup) Hm HS hx16 (by omega)
            have r2 := racc_any A8 q c8 ls x wr hV8 hql hls16 hx16 (by omega)
            obtain ⟨b1, hb1⟩ : ∃ b, acc ls x = b := ⟨_, rfl⟩
            obtain ⟨b2, hb2⟩ : ∃ b, acc l x = b := ⟨_, rfl⟩
            rw [hb1] at r2 HST
            rw [hb2] at r1 HST
            have cl5 := Boxed.cell (t := 22) ((hup.block _ bl5.lt).trans bl5)
            have dj : decide ((j : Int) < (N : Int)) = true := decide_eq_true (by omega)
            have wj : IntKind.i64.wrap ((j : Int) + 1) = (j : Int) + 1 := by rw [IntKind.wrap_i64]; omega
            clear hb1 hb2 hvx hV8 hql hls16 HLS
            go_wp2_with fail
            refine r1.mono ?_
            rintro e6 w6 ⟨rfl, rfl⟩
            cases b2 with
            | false =>
              have hst : Hid (ls = sea l (L.take (j + 1))) := by show _ = _; rw [HST.out]; simp
              clear HST r1 r2
              go_wp2_with fail
              exact ⟨⟨j + 1, q, ls, _, by omega, by omega, mk_us rfl, trivial, hown, hst, hup⟩, by simp [intOf]; omega⟩
            | true =>
              clear r1
              go_wp2_with fail
              refine r2.mono ?_
              rintro e7 w7 ⟨rfl, rfl⟩
              clear r2
              cases b1 with
              | true =>
                have hst : Hid (ls = sea l (L.take (j + 1))) := by show _ = _; rw [HST.out]; simp
                clear HST
                go_wp2_with fail
                exact ⟨⟨j + 1, q, ls, _, by omega, by omega, mk_us rfl, trivial, hown, hst, hup⟩, by simp [intOf]; omega⟩
              | false =>
                have hst : Hid (ls ++ [x] = sea l (L.take (j + 1))) := by show _ = _; rw [HST.out]; simp
                clear HST
                go_wp2_with (at_builtin; refine wp_appV rfl _ _ 22 28 rfl W5.heap.size (.int .u16 0) 2 Tryd.underlying22 Tryd.info28 rfl (by decide) _ q _ rfl (hown.alloc _) (some ⟨w7.heap.size, 0, none⟩) 1 1 (us [x]) rfl rfl (us_one _) (vals_one _ _ _) (by omega) (by simp; omega) ?_; intro v1 w8 hown8 hgrow8)
                exact ⟨⟨j + 1, q + 1, ls ++ [x], v1, by omega, by omega, mk_us rfl, trivial, by rw [us_append]; exact hown8, hst, up_append hup hown hgrow8⟩, by simp [intOf]; omega⟩
          · obtain rfl : j = N := by omega
            have dj : decide ((j : Int) < (j : Int)) = false := decide_eq_false (by omega)
            have HE : Hid (ls = Z) := by show _ = _; rw [HLS.out, HZ.out, List.take_of_length_le (by rw [← HN.out]; exact Nat.le_refl _)]
            have hqz := own_len hown
            rw [HE.out] at hown hqz
            obtain ⟨A8, c8, rfl, hc8, hV8, _, _⟩ := own_vals hown
            obtain ⟨Aa, ca, rfl, hca, hVa, _, _⟩ := own_vals hrow5
            have VW := vals_take hV8 t
            have VG := hVa.up hup
            have hkm : (Z.take t).length = min t Z.length := List.length_take
            obtain ⟨k, hk⟩ : ∃ k, (Z.take t).length = k := ⟨_, rfl⟩
            have Hk : Hid (k = (Z.take t).length) := hk.symm
            rw [hk] at hkm bG5
            have eq := fun w' hu => equal_any Aa A8 k ca k c8 (Z.take t) (Z.take t) w' (VG.up hu) (VW.up hu) Hk Hk (by omega) (by omega)
            simp only [decide_true] at eq
            have hus : Hid (Tryd.prog.underlying 22 = some (.slice (Tryd.prog.elem 22))) := by show _ = _; rw [show Tryd.prog.elem 22 = 28 by kernel_rfl]; exact Tryd.underlying22
            have sl := fun W => slice_to A8 q k c8 (by omega) W
            have wt : IntKind.i64.wrap (1 + IntKind.i64.wrap ((mo : Int).tmod 20)) = (t : Int) := by
              have e1 : (mo : Int).tmod 20 = (mo : Int) % 20 := Int.tmod_eq_emod_of_nonneg (by omega)
              have e2 : IntKind.i64.wrap ((mo : Int) % 20) = (mo : Int) % 20 := by rw [IntKind.wrap_i64]; omega
              rw [e1, e2, q20, IntKind.wrap_i64]
              omega
            have ja : Hid ((if IntKind.i64.wrap (1 + IntKind.i64.wrap ((mo : Int).tmod 20)) < (q : Int) then IntKind.i64.wrap (1 + IntKind.i64.wrap ((mo : Int).tmod 20)) else (q : Int)) = (k : Int)) := by
              show _ = _
              rw [wt]
              split <;> omega
            have cG6 := Boxed.cell (t := 22) ((hup.block _ bG5.lt).trans bG5)
            have cm6 := Boxed.cell (t := 5) ((hup.block _ bm5.lt).trans bm5)
            have hupA : Up wr wr.drew := (Up.refl wr).drew
            clear wt q20 hown hrow5 hV8 hVa VW VG hkm hk hca hc8 hqz HLS bG5 bm5 bl5
            go_wp2_with fail
            go_region_held3 (fun w' => w'.cell? ⟨G, 0, none⟩ = some (.slice Aa k ca) ∧ w'.cell? ⟨w.heap.size + 1, 0, none⟩ = some (.int .u8 (mo : Int)))
              (exact ⟨up_keep hupA cG6, up_keep hupA cm6⟩)
              (first
                | (refine step_slice (by rfl) (t := 22) hus.out rfl rfl rfl sl ?_)
                | (refine step_min2 (by rfl) rfl (x := (q : Int)) (y := IntKind.i64.wrap (1 + IntKind.i64.wrap ((mo : Int).tmod 20))) (z := (k : Int)) rfl rfl ja.out ?_)
                | (go_at_call 18; refine (eq _ hupA).mono ?_; rintro e w9 ⟨rfl, hup9⟩; replace hupA := hupA.trans hup9; clear eq))
            have hu := hup.trans hupA
            have hszu := hu.size
            go_wp2_with fail
            exact leave_marks (lo := w.heap.size) (Z := fun W' => Up w W') (fun A b o o' hb hl ho hz => hz.grown (grownBy_putObj' A b o') (fun k e => by cases e; omega)) (fun W' hz => ⟨_, results_tmp rfl _ _ _, rfl, hz⟩) _ _ _ ⟨D, Nat.lt_of_lt_of_le hDlt hszu, by omega, rfl, (hu.block D hDlt).trans hK5, trivial⟩ (hup5.trans hu)
end Go.Proofs.YtfdlmgjjpcdkpaaDoor
