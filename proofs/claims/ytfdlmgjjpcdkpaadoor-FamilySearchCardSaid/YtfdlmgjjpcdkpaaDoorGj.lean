/- The sequence of the sets that a predicate accepts: the walk of a use of it. -/
import Derived.Test.YtfdlmgjjpcdkpaaDoorGi
namespace Go.Proofs.YtfdlmgjjpcdkpaaDoor
open Go.RowKit Go.Shelf
attribute [local go_sem] Oper.semAt_some

/-- What is so between the rounds of the search. -/
def SI (J : List Nat → (Nat → Prop) → World → Prop) (l : List Nat) (B Y lo s : Nat) (fy : Value) (pre : List Nat) (W : World) : Prop :=
  ∃ (S : Nat → Prop) (v : Value), J (sea l pre) S W ∧ (∀ b, S b → B ≤ b ∧ b < W.heap.size) ∧ S B ∧ S Y ∧ S (Y + 1) ∧ lo ≤ W.heap.size ∧ Boxed W B 42 fy ∧ Boxed W Y 22 v ∧ Boxed W (Y + 1) 28 (.int .u16 (s : Int)) ∧
    W.ownsRow lo 28 1 v (sea l pre).length (us (sea l pre)) ∧ ∀ k, v.ownBlock = some k → S k
theorem si_own {J : List Nat → (Nat → Prop) → World → Prop} {l : List Nat} {B Y lo s base : Nat} {fy : Value} (hJ : OwnG B J) (hb : B ≤ base) : OwnFrom base (SI J l B Y lo s fy) := by
  rintro pre A W row ⟨S, v, hj, hS, h1, h2, h3, h0, h4, h5, h6, h7, h8⟩ hg hr
  refine ⟨S, v, hJ _ S A W S hj (ChgG.of_grown hg fun r e => .inr ⟨by have := (hr r e).1; omega, (hr r e).2⟩) (fun _ h => .inl h), fun b hb => ⟨(hS b hb).1, Nat.lt_of_lt_of_le (hS b hb).2 hg.size⟩, h1, h2, h3, Nat.le_trans h0 hg.size, box_kept h4 hg (fun r e => (hr r e).2), box_kept h5 hg (fun r e => (hr r e).2), box_kept h6 hg (fun r e => (hr r e).2), row_kept h7 hg (fun r e => (hr r e).2), h8⟩
/-- What an append of one set to the list in a box comes to, and where its row lies. -/
theorem row_app {W : World} {Y q x n₀ n₁ : Nat} {v : Value} {l : List Value} (hv : Boxed W Y 22 v) (hrow : W.ownsRow n₁ 28 1 v q l) (hYn : Y < n₁) (h0 : n₀ ≤ Y) (hn : n₁ ≤ W.heap.size) :
    ∀ (v' : Value) (w9 : World), w9.ownsRow n₁ 28 1 v' (q + 1) (l ++ us [x]) → (W.alloc (.cells #[.int .u16 (x : Int)] 28)).grownBy w9 v.ownBlock → (v'.ownBlock = v.ownBlock ∨ v'.ownBlock = some (W.alloc (.cells #[.int .u16 (x : Int)] 28)).heap.size) →
      Boxed w9 Y 22 v ∧ Kp n₀ 28 n₁ W (w9.setCell ⟨Y, 0, none⟩ v') ∧ Boxed (w9.setCell ⟨Y, 0, none⟩ v') Y 22 v' ∧ (w9.setCell ⟨Y, 0, none⟩ v').ownsRow n₁ 28 1 v' (q + 1) (l ++ us [x]) ∧
      (∀ (S : Nat → Prop) (base : Nat), S Y → (∀ k, v.ownBlock = some k → S k) → ChgG base S W (w9.setCell ⟨Y, 0, none⟩ v')) ∧ (∀ (b : Nat), b < W.heap.size → b ≠ Y → v.ownBlock ≠ some b → (w9.setCell ⟨Y, 0, none⟩ v').heap[b]? = W.heap[b]?) ∧
      (∀ k, v'.ownBlock = some k → v.ownBlock = some k ∨ (W.heap.size ≤ k ∧ k < (w9.setCell ⟨Y, 0, none⟩ v').heap.size)) := by
  intro v' w9 hown' hgrow hat
  have hv1 : Boxed w9 Y 22 v := (hv.alloc _).kept hgrow (hv.not_row (by decide) hrow)
  have hrb : ∀ k, v.ownBlock = some k → n₁ ≤ k ∧ ∃ cs fr, (W.alloc (.cells #[.int .u16 (x : Int)] 28)).heap[k]? = some (.cells cs 28 fr) := by
    intro k ek
    rcases hrow.2 with ⟨rfl, _⟩ | ⟨g0, cap, cur, rfl, hbg, hgb, _⟩
    · simp [Value.ownBlock] at ek
    · obtain rfl : g0 = k := by simpa [Value.ownBlock] using ek
      exact ⟨hbg, cur, _, (Below.heap_alloc _ _ g0 (Array.getElem?_eq_some_iff.1 hgb).1).trans hgb⟩
  have hs9 := hgrow.size
  rw [World.size_alloc] at hs9
  have hsame : ∀ (b : Nat), b < W.heap.size → b ≠ Y → v.ownBlock ≠ some b → (w9.setCell ⟨Y, 0, none⟩ v').heap[b]? = W.heap[b]? := by
    intro b hb hbY hbv
    rw [(grownBy_setCell' w9 Y v').block b (by omega) (fun e => hbY (by cases e; rfl)), hgrow.block b (by rw [World.size_alloc]; omega) (fun e => hbv e.symm), Below.heap_alloc _ _ b hb]
  have hgs := grownBy_setCell' w9 Y v'
  have hfs : w9.heap.size ≤ (w9.setCell ⟨Y, 0, none⟩ v').heap.size := hgs.size
  have hga := World.grownBy_alloc W (.cells #[.int .u16 (x : Int)] 28) none
  refine ⟨hv1, ?_, hv1.set v', hown'.kept hgs (.inr (hv1.not_row (by decide) hown').symm), ?_, hsame, ?_⟩
  · have k1 : Kp n₀ 28 n₁ W (W.alloc (.cells #[.int .u16 (x : Int)] 28)) := Kp.of_below ((Below.refl _ W).alloc (Nat.le_refl _) _) (by omega)
    have k2 : Kp n₀ 28 n₁ (W.alloc (.cells #[.int .u16 (x : Int)] 28)) w9 :=
      Kp.of_grown hgrow (by rw [World.size_alloc]; omega) (fun k ek => ⟨by have := (hrb k ek).1; omega, .inr (hrb k ek).2⟩)
    exact (k1.trans k2).trans (Kp.of_grown hgs (by omega) (fun k ek => by cases ek; exact ⟨h0, .inl hYn⟩))
  · intro S base hSY hSv
    refine ⟨(hgs.os.trans hgrow.os).trans hga.os, (hgs.tape.trans hgrow.tape).trans hga.tape, (hgs.output.trans hgrow.output).trans hga.output, by omega, fun b o ho hS _ => ?_⟩
    have hb := (Array.getElem?_eq_some_iff.1 ho).1
    exact (hsame b hb (fun e => hS (by rw [e]; exact hSY)) (fun e => hS (hSv b e))).trans ho
  · intro k hk
    rcases hat with h | h
    · exact .inl (by rw [← h]; exact hk)
    · right
      rw [h, World.size_alloc] at hk
      cases hk
      have hlt : W.heap.size + 1 < w9.heap.size := by
        rcases hown'.2 with ⟨rfl, h1⟩ | ⟨g0, cap, cur, rfl, _, hgb, _⟩
        · omega
        · rw [World.size_alloc] at h
          have : g0 = W.heap.size + 1 := by simpa [Value.ownBlock] using h
          rw [← this]
          exact (Array.getElem?_eq_some_iff.1 hgb).1
      exact ⟨by omega, by omega⟩
theorem row_same {A B : World} {lo n : Nat} {e : TypeId} {v : Value} {l : List Value} (hr : A.ownsRow lo e 1 v n l) (h : ∀ k, v.ownBlock = some k → B.heap[k]? = A.heap[k]?) : B.ownsRow lo e 1 v n l := by
  refine ⟨hr.1, ?_⟩
  rcases hr.2 with h1 | ⟨g, cap, cur, rfl, hb, hg, h2⟩
  · exact .inl h1
  · exact .inr ⟨g, cap, cur, rfl, hb, (h g rfl).trans hg, h2⟩
set_option maxRecDepth 100000 in
set_option maxHeartbeats 4000000 in
theorem search_seq (bn ba bl n₀ n : Nat) (A : Option Addr) (m c : Nat) (l : List Nat) (w : World) (hn7 : n ≤ 7) (Hm : Hid (m = l.length)) (HS : Hid (Small16 l)) (hm : m ≤ 1000000) (hn : n₀ ≤ w.heap.size) :
    SeqG Tryd.prog 56 #[.pointer (some ⟨bn, 0, none⟩), .pointer (some ⟨ba, 0, none⟩)] (fun x => #[svE x]) n₀ 28 (sea l (allL n)) w (SX bn ba bl (n : Int) A m c l) := by
  intro y J Jx W hW hJ hJx hX hY h0
  have hnW : n₀ ≤ W.heap.size := Nat.le_trans hn hW.size
  obtain ⟨bN, _, _, _⟩ := hX _ _ _ h0
  have c1 : (W.alloc (.cells #[.func (.yield y) #[] #[]] 42)).cell? ⟨bn, 0, none⟩ = some (.int .i64 (n : Int)) := (bN.alloc _).cell
  have hfull := full_any (n : Int) (W.alloc (.cells #[.func (.yield y) #[] #[]] 42))
  have efs : fullS (n : Int) = (2 ^ n - 1, 0) := by unfold fullS; rw [if_neg (by omega)]; simp
  have hsubs := subs_all7 ⟨n, by omega⟩
  have hlen := allL_len7 ⟨n, by omega⟩
  dsimp only at hsubs hlen
  obtain ⟨s, hs⟩ : ∃ s, 2 ^ n - 1 = s := ⟨_, rfl⟩
  have hs16 : s < 65536 := by
    have : 2 ^ n ≤ 2 ^ 7 := Nat.pow_le_pow_right (by omega) hn7
    omega
  have h16 : Hid (Small16 (allL n)) := by
    intro x hx
    have h1 := allL_lt x hx
    have : 2 ^ n ≤ 2 ^ 7 := Nat.pow_le_pow_right (by omega) hn7
    omega
  rw [hs] at hsubs efs
  rw [efs] at hfull
  obtain ⟨xs, Hxs⟩ : ∃ xs, Hid (xs = allL n) := ⟨_, rfl⟩
  have hseq := fun Z w hn => subsets_seqX Z s n₀ w hs16 hn
  rw [hsubs] at hseq
  rw [← Hxs.out] at hseq hlen h16 hY ⊢
  clear hs hsubs efs bN
  refine callsIn_of_wp_marks Tryd.func56 rfl trivial ?_ rfl
  simp only [Tryd.ntmps56, List.size_toArray, List.length_cons, List.length_nil, Nat.reduceAdd, Nat.reduceSub, Array.replicate_succ, Array.replicate_zero, List.push_toArray, List.append_toArray, List.nil_append, List.cons_append]
  gi_wp2_with fail
  refine ⟨trivial, rfl, (callsIn_wide.2 hfull).mono ?_⟩
  rintro e W1 ⟨rfl, hu1⟩
  clear hfull
  dsimp only
  gi_wp2_with fail
  refine ⟨trivial, rfl, (subsets_any s _).mono ?_⟩
  rintro e W3 ⟨rfl, rfl⟩
  gi_wp2_with fail
  obtain ⟨W3, hW3⟩ : ∃ W3, (W1.alloc (.cells #[.slice none 0 0] 22)).alloc (.cells #[.int .u16 (s : Int)] 28) = W3 := ⟨_, rfl⟩
  rw [hW3]
  have hsW : W.heap.size + 1 ≤ W1.heap.size := by have := hu1.size; rwa [World.size_alloc] at this
  have bB1 : Boxed W1 W.heap.size 42 (.func (.yield y) #[] #[]) := (Boxed.new W _ _).kept (up_grown hu1) (by simp)
  have hup3 : Up W W3 := by rw [← hW3]; exact ((up_alloc_up hu1).alloc _).alloc _
  have bB3 : Boxed W3 W.heap.size 42 (.func (.yield y) #[] #[]) := by rw [← hW3]; exact (bB1.alloc _).alloc _
  have bY3 : Boxed W3 W1.heap.size 22 (.slice none 0 0) := by rw [← hW3]; exact (Boxed.new W1 _ _).alloc _
  have bZ3 : Boxed W3 (W1.heap.size + 1) 28 (.int .u16 (s : Int)) := by
    rw [← hW3]
    have := Boxed.new (W1.alloc (.cells #[.slice none 0 0] 22)) 28 (.int .u16 (s : Int))
    rwa [World.size_alloc] at this
  have hs3 : W3.heap.size = W1.heap.size + 2 := by rw [← hW3]; simp
  clear hW3 hu1 bB1
  obtain ⟨Y, hYe⟩ : ∃ Y, W1.heap.size = Y := ⟨_, rfl⟩
  rw [hYe] at hsW bY3 bZ3 hs3 ⊢
  clear hYe
  obtain ⟨i0, hi, hz0, hz1, hz2⟩ := info_parts Tryd.info28
  refine range_walkX (gf := 71) (lb := #[.pointer (some ⟨Y + 1, 0, none⟩)]) rfl (enters_of Tryd.func71 (by kernel_rfl) rfl) (hseq (Y + 1) W3 (by omega)) (Below.refl _ _) (by omega) (fun x => rfl)
    (SI J l W.heap.size Y W3.heap.size s (.func (.yield y) #[] #[])) (fun cc pre Wx => cc = .ret ∧ ∃ S pre', pre' <+: sea l xs ∧ Jx pre' S Wx) ?hIX (si_own hJ (by omega)) ?hIx ?h0
    (fun x => { tmps := #[.func (.yield y) #[] #[], .pointer (some ⟨bn, 0, none⟩), .pointer (some ⟨ba, 0, none⟩), .pointer (some ⟨W.heap.size, 0, none⟩), .int .u16 (s : Int), .int .i64 0, .pointer (some ⟨Y, 0, none⟩), .int .u16 (x : Int), .tuple #[.int .u16 (s : Int), .int .i64 0], .int .i64 (n : Int), .tuple #[.int .u16 (s : Int), .int .i64 0], .int .u16 (s : Int), .int .i64 0, .int .i64 0, .bool false, .int .u16 (s : Int), .func (.func 71) #[] #[.pointer (some ⟨Y + 1, 0, none⟩)], .int .u16 (x : Int), undef, undef, undef, undef, undef, undef, undef, undef, undef, undef, undef, undef, undef, undef, undef, undef, undef], defers := [] })
    ?assign ?body ?done ?stop
  case hIX =>
    rintro pre Wx ⟨S, v, _, _, _, _, _, _, _, _, h6, _⟩
    exact h6
  case hIx =>
    rintro cc pre A W' row ⟨h1, S, pre', hp, hx⟩ hg hr
    exact ⟨h1, S, pre', hp, hJx _ S A W' S hx (ChgG.of_grown hg fun r e => .inr ⟨by have := (hr r e).1; omega, (hr r e).2⟩) (fun _ h => .inl h)⟩
  case h0 =>
    refine ⟨fun b => b = W.heap.size ∨ b = Y ∨ b = Y + 1, .slice none 0 0, hJ _ _ W W3 _ h0 (ChgG.of_grown (up_grown hup3) (fun r e => by cases e)) (fun b hb => .inr (by rcases hb with h | h | h <;> omega)), fun b hb => by rcases hb with h | h | h <;> omega, Or.inl rfl, Or.inr (Or.inl rfl), Or.inr (Or.inr rfl), Nat.le_refl _, bB3, bY3, bZ3, World.ownsRow_nil _ _ _ _, fun k hk => by simp [Value.ownBlock] at hk⟩
  case assign =>
    intro l2 x W4 K2 hK2
    dsimp only [svE]
    gi_wp2
    exact hK2
  case body =>
    rintro l2 pre x W4 ⟨S, v, hj, hSb, sB, sY, sZ, hlo, bB, bY, bZ, hrow, hvS⟩ hpre
    obtain ⟨_, bA, bL, vL⟩ := hX _ _ _ hj
    have hx16 : x < 65536 := h16.out x (hpre.subset (by simp))
    have hpl : pre.length + 1 ≤ xs.length := by have := hpre.length_le; simpa using this
    have hsl := sea_len l pre
    have hstep := sea_snoc l pre x
    have hsp := sea_prefix (l := l) hpre
    have HY16 : Hid (Small16 (sea l pre)) := by
      intro z hz
      exact h16.out z (((List.prefix_append pre [x]).trans hpre).subset (sea_mem l pre z hz))
    obtain ⟨ys, hys⟩ : ∃ ys, sea l pre = ys := ⟨_, rfl⟩
    rw [hys] at hj hrow hsl hstep HY16
    obtain ⟨A1, c2, rfl, _, hV, _, _⟩ := own_vals hrow
    have hacc := acc_any A1 ys.length c2 ys x W4 hV rfl HY16 hx16 (by omega)
    have hlaw := law_acc bl A m c l x W4 bL vL Hm HS hx16 hm
    obtain ⟨b1, hb1⟩ : ∃ b, acc ys x = b := ⟨_, rfl⟩
    obtain ⟨b2, hb2⟩ : ∃ b, acc l x = b := ⟨_, rfl⟩
    rw [hb1] at hacc hstep
    rw [hb2] at hlaw hstep
    obtain ⟨q, hq⟩ : ∃ q, ys.length = q := ⟨_, rfl⟩
    rw [hq] at hacc hsl
    have cA := bA.cell
    have cB := bB.cell
    have cY := bY.cell
    rw [hq] at hrow cY bY hvS
    have hszW := hSb _ sY
    clear hb1 hb2 bL vL hV HY16
    gi_wp2_with fail
    refine ⟨trivial, rfl, (CallsIn.inRound l2 (callsIn_wide.2 hacc)).mono ?_⟩
    rintro e W5 ⟨rfl, rfl⟩
    cases b1 with
    | true =>
      have hst : sea l (pre ++ [x]) = ys := by rw [hstep]; rfl
      gi_wp2_with fail
      refine ⟨(fun f h => by cases h), ?_⟩
      gi_wp2
      exact ⟨Kp.refl _ _ _ _, S, _, by rw [hst]; exact hj, hSb, sB, sY, sZ, hlo, bB, bY, bZ, by rw [hst, hq]; exact hrow, hvS⟩
    | false =>
      clear hacc
      gi_wp2_with fail
      refine ⟨trivial, rfl, (CallsIn.inRound l2 (callsIn_wide.2 hlaw)).mono ?_⟩
      rintro e W5 ⟨rfl, rfl⟩
      cases b2 with
      | false =>
        have hst : sea l (pre ++ [x]) = ys := by rw [hstep]; rfl
        gi_wp2
        exact ⟨Kp.refl _ _ _ _, S, _, by rw [hst]; exact hj, hSb, sB, sY, sZ, hlo, bB, bY, bZ, by rw [hst, hq]; exact hrow, hvS⟩
      | true =>
        have hst : sea l (pre ++ [x]) = ys ++ [x] := by rw [hstep]; rfl
        rw [hst] at hsp
        obtain ⟨fn, tmps, assign, body, hy, hR⟩ := hY ys x S W5 hj hSb hsp
        dsimp only [svE] at hy
        clear hlaw cA
        gi_wp2_with fail
        refine ⟨rfl, (round_in l2 hR).mono ?_⟩
        clear hy hR
        rintro e W6 ⟨hk6, hS6, (⟨rfl, hj6⟩ | ⟨rfl, hx6⟩)⟩
        · have bY6 : Boxed W6 Y 22 (.slice A1 q c2) := (hS6 Y sY).trans bY
          have hrow6 := row_same hrow (fun k hk => hS6 k (hvS k hk))
          have hsz6 := hk6.size
          have hap := row_app (x := x) (n₀ := n₀) bY6 hrow6 (by omega) (by omega) (by omega)
          have cY6 := bY6.cell
          gi_wp2_with (gi_at_builtin; refine wpListIn_append_at _ rfl _ _ 22 rfl W3.heap.size 28 i0 (.int .u16 0) 1 2 Tryd.underlying22 hi hz0 hz1 hz2 rfl (by decide) _ _ _ rfl (hrow6.alloc _) ⟨W6.heap.size, 0, none⟩ 1 1 (us [x]) rfl rfl (cell_one_new _ _ _) (by simp [us, Value.oneCell', sv]) (by simp [maxLen]; omega) (by omega) (by simp; omega) ?_; intro v' w9 hown' hgrow hat; obtain ⟨g', cap', rfl⟩ := ownsRow_succ hown'; obtain ⟨hv1, hfin⟩ := hap _ _ hown' hgrow hat; have hc1 := hv1.cell; have hf1 := hv1.frozen)
          obtain ⟨e1, e2, e3, e4, e5, e6⟩ := hfin
          have hfs := e1.size
          have hrl : ∀ k, (Value.slice A1 q c2).ownBlock = some k → W3.heap.size ≤ k := fun k hk => (hrow6.lt k hk).1
          have bo : ∀ (b : Nat) (t : TypeId) (u : Value), S b → b < W3.heap.size → b ≠ Y → Boxed W5 b t u → Boxed (w9.setCell ⟨Y, 0, none⟩ (.slice (some ⟨g', 0, none⟩) (q + 1) cap')) b t u := fun b t u hb hb3 hbY hbx =>
            (e5 b (by omega) hbY (fun e => by have := hrl b e; omega)).trans ((hS6 b hb).trans hbx)
          exact ⟨(hk6.later (by omega)).trans e1, fun b => S b ∨ (W6.heap.size ≤ b ∧ b < (w9.setCell ⟨Y, 0, none⟩ (.slice (some ⟨g', 0, none⟩) (q + 1) cap')).heap.size), _,
            by rw [hst]; exact hJ _ S W6 _ _ hj6 (e4 S W.heap.size sY hvS) (fun b hb => hb.imp id (fun h => h.1)),
            fun b hb => by
              rcases hb with h | h
              · have := hSb b h; omega
              · omega, .inl sB, .inl sY, .inl sZ, by omega, bo _ _ _ sB (by omega) (by omega) bB, e2, bo _ _ _ sZ (by omega) (by omega) bZ,
            by rw [hst, List.length_append, hq, us_append]; exact e3, fun k hk => (e6 k hk).imp (fun h => hvS k h) id⟩
        · have hout : ∃ S pre', pre' <+: sea l xs ∧ Jx pre' S W6 := ⟨S, _, hsp, hx6⟩
          have HOut := hide hout
          clear hx6 hout
          gi_wp2
          exact ⟨hk6.later (by omega), rfl, HOut.out⟩
  case done =>
    rintro D W4 hD ⟨S, v, hj, hSb, _⟩ hK
    have hDlt : D < W4.heap.size := (Array.getElem?_eq_some_iff.1 hK).1
    gi_wp2_with fail
    exact leave_marks (lo := W.heap.size) (Z := fun W' => ∃ S, J (sea l xs) S W') (fun A b o o' hb hl ho ⟨S, hz⟩ => ⟨S, hJ.putObj o' hz hb hl ho⟩) (fun W' hz => ⟨_, results_none rfl _ _ _, ⟨_, rfl⟩, .inl hz⟩) _ _ W4
      ⟨D, hDlt, by omega, rfl, hK, trivial⟩ ⟨S, hj⟩
  case stop =>
    rintro D cc pre W4 hD hpre ⟨rfl, S, pre', hp, hx⟩ hK
    have hDlt : D < W4.heap.size := (Array.getElem?_eq_some_iff.1 hK).1
    gi_wp2_with fail
    exact leave_marks (lo := W.heap.size) (Z := fun W' => ∃ pre S, pre <+: sea l xs ∧ Jx pre S W') (fun A b o o' hb hl ho ⟨q, S, hq, hz⟩ => ⟨q, S, hq, hJx.putObj o' hz hb hl ho⟩) (fun W' hz => ⟨_, results_none rfl _ _ _, ⟨_, rfl⟩, .inr hz⟩) _ _ W4
      ⟨D, hDlt, by omega, rfl, hK, trivial⟩ ⟨_, S, hp, hx⟩
end Go.Proofs.YtfdlmgjjpcdkpaaDoor
