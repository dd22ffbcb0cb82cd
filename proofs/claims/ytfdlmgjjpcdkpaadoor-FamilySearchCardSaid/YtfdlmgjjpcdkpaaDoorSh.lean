/- Walks inside a fence: the sequences of all subsets, and of those with k members. -/
import Derived.Test.YtfdlmgjjpcdkpaaDoorSg
namespace Go.Proofs.YtfdlmgjjpcdkpaaDoor
open Go.RowKit Go.Shelf
attribute [local go_sem] Oper.semAt_some

/-- The subsets with k members in order. -/
def choI (s : Nat) (k : Int) : List Nat := if k < 0 then [] else cho 0 (mem 16 s).reverse k.toNat
/-- The subsets with less than k members in order. -/
def subs (s k : Nat) : List Nat := (List.range k).flatMap fun j => cho 0 (mem 16 s).reverse j
theorem subs_succ (s k : Nat) : subs s (k + 1) = subs s k ++ choI s (k : Int) := by
  unfold subs choI
  rw [List.range_succ, List.flatMap_append, if_neg (by omega), Int.toNat_natCast]
  simp
theorem subs_prefix (s k d : Nat) : subs s k <+: subs s (k + d) := by
  unfold subs
  rw [List.range_add, List.flatMap_append]
  exact List.prefix_append _ _
theorem round_in {m : Nat} {P : Program} {l : Nat} {f : FuncId} {tmps : Array Value} {assign body : Code} {w : World} {R : Ending → World → Prop} (l2 : Nat) (h : RoundIn Fence.wide m P l f tmps assign body w R) : RoundIn (Fence.wide.inRound l2) m P l f tmps assign body w R := h
def svE (x : Nat) : Value := .int .u16 (x : Int)
set_option maxRecDepth 100000 in
set_option maxHeartbeats 2000000 in
theorem choices_neg (l n₀ n₁ b c : Nat) (k : Int) (t : TypeId) (J Jx : List Nat → World → Prop) (pre : List Nat) (W : World) (hk : k < 0) (hj : J pre W) :
    CallsIn Fence.wide 0 Tryd.prog 84 #[.int .u16 (c : Int), .int .u16 (b : Int), .int .i64 k, .func (.yield l) #[] #[]] W (Yields n₀ t n₁ J Jx pre [] W) := by
  refine callsIn_of_wp Tryd.func84 rfl trivial ?_ rfl
  simp only [Tryd.ntmps84, List.size_toArray, List.length_cons, List.length_nil, Nat.reduceAdd, Nat.reduceSub, Array.replicate_succ, Array.replicate_zero, List.push_toArray, List.append_toArray, List.nil_append, List.cons_append]
  have d0 : decide (k < 0) = true := decide_eq_true hk
  clear hk
  gi_wp2_with fail
  refine ⟨trivial, ?_⟩
  gi_wp2
  go_ret
  exact .inl ⟨rfl, by rw [List.append_nil]; exact hj, Kp.refl _ _ _ _⟩
set_option maxRecDepth 100000 in
set_option maxHeartbeats 2000000 in
theorem choose_seq (Bs Bk s n₀ : Nat) (k : Int) (w : World) (hs : s < 65536) (hn : n₀ ≤ w.heap.size) (hBs : Boxed w Bs 28 (.int .u16 (s : Int))) (hBk : Boxed w Bk 3 (.int .i64 k)) :
    SeqO Tryd.prog 83 #[.pointer (some ⟨Bs, 0, none⟩), .pointer (some ⟨Bk, 0, none⟩)] svE n₀ 28 (choI s k) w := by
  intro l J Jx W hW hJ hJx hY h0
  have b1 : Boxed W Bs 28 (.int .u16 (s : Int)) := (hW.block Bs hBs.lt).trans hBs
  have b2 : Boxed W Bk 3 (.int .i64 k) := (hW.block Bk hBk.lt).trans hBk
  have c1 := b1.cell
  have c2 := b2.cell
  have hcall : CallsIn Fence.wide 0 Tryd.prog 84 #[.int .u16 0, .int .u16 (s : Int), .int .i64 k, .func (.yield l) #[] #[]] W (Yields n₀ 28 W.heap.size J Jx [] (choI s k) W) := by
    unfold choI at hY ⊢
    by_cases hk : k < 0
    · rw [if_pos hk]
      exact choices_neg l n₀ _ s 0 k _ J Jx [] W hk h0
    · rw [if_neg hk] at hY ⊢
      obtain ⟨j, rfl⟩ : ∃ j : Nat, k = j := ⟨k.toNat, by omega⟩
      rw [Int.toNat_natCast] at hY ⊢
      exact choices_in l n₀ _ _ _ _ J Jx hJ hY _ s 0 j [] W rfl hs (by omega) (Nat.le_trans hn hW.size) h0 (by rw [List.nil_append]; exact List.prefix_refl _)
  refine callsIn_of_wp Tryd.func83 rfl trivial ?_ rfl
  simp only [Tryd.ntmps83, List.size_toArray, List.length_cons, List.length_nil, Nat.reduceAdd, Nat.reduceSub, Array.replicate_succ, Array.replicate_zero, List.push_toArray, List.append_toArray, List.nil_append, List.cons_append]
  gi_wp2_with fail
  refine ⟨trivial, rfl, hcall.mono ?_⟩
  rintro e W1 (⟨rfl, hj, _⟩ | ⟨rfl, q, hq, hx⟩)
  · gi_wp2
    go_end0
    exact ⟨⟨_, rfl⟩, .inl hj⟩
  · gi_wp2
    go_end0
    exact ⟨⟨_, rfl⟩, .inr ⟨q, hq, hx⟩⟩
set_option maxRecDepth 100000 in
theorem choose_any (s : Nat) (k : Int) (w : World) : CallsIn Fence.wide 0 Tryd.prog 72 #[.int .u16 (s : Int), .int .i64 k] w fun e w' =>
    e = .returned (.func (.func 83) #[] #[.pointer (some ⟨w.heap.size, 0, none⟩), .pointer (some ⟨w.heap.size + 1, 0, none⟩)]) ∧ w' = (w.alloc (.cells #[.int .u16 (s : Int)] 28)).alloc (.cells #[.int .i64 k] 3) := by
  refine callsIn_of_wp Tryd.func72 rfl trivial ?_ rfl
  simp only [Tryd.ntmps72, List.size_toArray, List.length_cons, List.length_nil, Nat.reduceAdd, Nat.reduceSub, Array.replicate_succ, Array.replicate_zero, List.push_toArray, List.append_toArray, List.nil_append, List.cons_append]
  gi_wp2
  go_ret
  exact ⟨rfl, rfl⟩
set_option maxRecDepth 100000 in
theorem subsets_any (s : Nat) (w : World) : CallsIn Fence.wide 0 Tryd.prog 58 #[.int .u16 (s : Int)] w fun e w' =>
    e = .returned (.func (.func 71) #[] #[.pointer (some ⟨w.heap.size, 0, none⟩)]) ∧ w' = w.alloc (.cells #[.int .u16 (s : Int)] 28) := by
  refine callsIn_of_wp Tryd.func58 rfl trivial ?_ rfl
  simp only [Tryd.ntmps58, List.size_toArray, List.length_cons, List.length_nil, Nat.reduceAdd, Nat.reduceSub, Array.replicate_succ, Array.replicate_zero, List.push_toArray, List.append_toArray, List.nil_append, List.cons_append]
  gi_wp2
  go_ret
  exact ⟨rfl, rfl⟩
set_option maxRecDepth 100000 in
set_option maxHeartbeats 2000000 in
theorem subsets_seq (Bs s n₀ : Nat) (w : World) (hs : s < 65536) (hn : n₀ ≤ w.heap.size) (hBn : Bs < n₀) (hBs : Boxed w Bs 28 (.int .u16 (s : Int))) :
    SeqO Tryd.prog 71 #[.pointer (some ⟨Bs, 0, none⟩)] svE n₀ 28 (subs s (cnt s + 1)) w := by
  intro l J Jx W hW hJ hJx hY h0
  have b1 : Boxed W Bs 28 (.int .u16 (s : Int)) := (hW.block Bs hBs.lt).trans hBs
  have hnW : n₀ ≤ W.heap.size := Nat.le_trans hn hW.size
  have c1 : (W.alloc (.cells #[.func (.yield l) #[] #[]] 42)).cell? ⟨Bs, 0, none⟩ = some (.int .u16 (s : Int)) := (b1.alloc _).cell
  refine callsIn_of_wp_marks Tryd.func71 rfl trivial ?_ rfl
  simp only [Tryd.ntmps71, List.size_toArray, List.length_cons, List.length_nil, Nat.reduceAdd, Nat.reduceSub, Array.replicate_succ, Array.replicate_zero, List.push_toArray, List.append_toArray, List.nil_append, List.cons_append]
  obtain ⟨n, hn1⟩ : ∃ n, cnt s = n := ⟨_, rfl⟩
  have hcount := count_any s (W.alloc (.cells #[.func (.yield l) #[] #[]] 42)) hs
  have hn16 : n ≤ 16 := by rw [← hn1]; exact cnt_le s
  rw [hn1] at hcount hY ⊢
  obtain ⟨xs, Hxs⟩ : ∃ xs, Hid (xs = subs s (n + 1)) := ⟨_, rfl⟩
  rw [← Hxs.out] at hY ⊢
  gi_wp2_with fail
  refine ⟨trivial, rfl, (callsIn_wide.2 hcount).mono ?_⟩
  rintro e W1 ⟨rfl, hu1⟩
  gi_wp2_with fail
  refine wpIn_loop (fun a wr => ∃ (k : Nat) (ds : List Deferred) (u3 u4 u5 u6 u9 u10 u11 u12 u13 u14 u15 u16 u17 u18 u19 : Value), k ≤ n + 1 ∧ a = { tmps := #[.func (.yield l) #[] #[], .pointer (some ⟨Bs, 0, none⟩), .pointer (some ⟨W.heap.size, 0, none⟩), u3, u4, u5, u6, .int .i64 ((n : Int) + 1), .int .i64 (k : Int), u9, u10, u11, u12, u13, u14, u15, u16, u17, u18, u19], defers := ds } ∧
    Marks (W.heap.size + 1) ds wr.heap.size wr ∧ J (subs s k) wr ∧ Boxed wr W.heap.size 42 (.func (.yield l) #[] #[]) ∧ Boxed wr Bs 28 (.int .u16 (s : Int)) ∧ W.heap.size < wr.heap.size)
    (fun a _ => n + 1 - (intOf (a.tmps.getD 8 undef)).toNat) ?_ ?_
  · have hj1 : J (subs s 0) W1 := hJ _ _ W1 none (hJ _ _ _ none h0 (World.grownBy_alloc W _ none) (fun r e => by cases e)) (up_grown hu1) (fun r e => by cases e)
    have hsz := hu1.size
    simp at hsz
    exact ⟨0, [], _, _, _, _, _, _, _, _, _, _, _, _, _, _, _, by omega, rfl, trivial, hj1, (Boxed.new W _ _).kept (up_grown hu1) (by simp), (b1.alloc _).kept (up_grown hu1) (by simp), by omega⟩
  · rintro a wr ⟨k, ds, u3, u4, u5, u6, u9, u10, u11, u12, u13, u14, u15, u16, u17, u18, u19, hk, rfl, hM, hj, hBy, hBs2, hsz⟩
    have cS := hBs2.cell
    have cY := hBy.cell
    by_cases hlt : k < n + 1
    · have hk2 : k ≤ n := by omega
      have hd : decide ((k : Int) < (n : Int) + 1) = true := decide_eq_true (by omega)
      gi_wp2_with fail
      refine ⟨trivial, rfl, (choose_any s k wr).mono ?_⟩
      rintro e w1 ⟨rfl, rfl⟩
      obtain ⟨w1, hw1⟩ : ∃ w1, (wr.alloc (.cells #[.int .u16 (s : Int)] 28)).alloc (.cells #[.int .i64 (k : Int)] 3) = w1 := ⟨_, rfl⟩
      rw [hw1]
      gi_wp2_with fail
      have hs1 : w1.heap.size = wr.heap.size + 2 := by rw [← hw1]; simp
      have bx1 : Boxed w1 wr.heap.size 28 (.int .u16 (s : Int)) := by rw [← hw1]; exact (Boxed.new wr _ _).alloc _
      have bx2 : Boxed w1 (wr.heap.size + 1) 3 (.int .i64 (k : Int)) := by
        rw [← hw1]
        have := Boxed.new (wr.alloc (.cells #[.int .u16 (s : Int)] 28)) 3 (.int .i64 (k : Int))
        rwa [World.size_alloc] at this
      have gro : ∀ (I : List Nat → World → Prop) (pre : List Nat), OwnFrom wr.heap.size I → I pre wr → I pre w1 := by
        intro I pre hI h
        rw [← hw1]
        exact hI.alloc _ (hI.alloc _ h)
      have hxs : subs s (k + 1) <+: xs := by
        rw [Hxs.out]
        obtain ⟨d, hdE⟩ : ∃ d, n + 1 = (k + 1) + d := ⟨n - k, by omega⟩
        rw [hdE]
        exact subs_prefix s (k + 1) d
      rw [subs_succ] at hxs
      have hJm : OwnFrom wr.heap.size J := ownFrom_mono hJ (by omega)
      refine range_walk (gf := 83) (lb := #[.pointer (some ⟨wr.heap.size, 0, none⟩), .pointer (some ⟨wr.heap.size + 1, 0, none⟩)]) rfl (enters_of Tryd.func83 (by kernel_rfl) rfl)
        (choose_seq wr.heap.size (wr.heap.size + 1) s n₀ (k : Int) w1 hs (by omega) bx1 bx2) (Below.refl _ _) (by omega) rfl
        (fun pre W2 => J (subs s k ++ pre) W2 ∧ Boxed W2 W.heap.size 42 (.func (.yield l) #[] #[]) ∧ Boxed W2 Bs 28 (.int .u16 (s : Int)) ∧ Marks (W.heap.size + 1) ds wr.heap.size W2 ∧ wr.heap.size < W2.heap.size)
        (fun c pre W2 => c = .ret ∧ Jx (subs s k ++ pre) W2 ∧ Marks (W.heap.size + 1) ds wr.heap.size W2)
        ?hI ?hIx ?h0
        (fun x => { tmps := #[.func (.yield l) #[] #[], .pointer (some ⟨Bs, 0, none⟩), .pointer (some ⟨W.heap.size, 0, none⟩), .int .i64 (k : Int), .int .u16 (x : Int), u5, u6, .int .i64 ((n : Int) + 1), .int .i64 (k : Int), .bool true, .int .i64 (k : Int), .int .u16 (s : Int), .int .i64 (k : Int), .func (.func 83) #[] #[.pointer (some ⟨wr.heap.size, 0, none⟩), .pointer (some ⟨wr.heap.size + 1, 0, none⟩)], .int .u16 (x : Int), u15, u16, u17, u18, u19], defers := [] })
        ?assign ?body ?done ?stop
      case hI =>
        rintro pre A B row ⟨h1, h2, h3, h4, h5⟩ hg hr
        refine ⟨(ownFrom_mono hJ (by omega)) _ A B row h1 hg hr, (boxed_own _ _ (fun _ : Unit => _)).from w1.heap.size () A B row h2 hg hr, (boxed_own _ _ (fun _ : Unit => _)).from w1.heap.size () A B row h3 hg hr, h4.kept (fun b o h1 h2 ho _ => ?_), by have := hg.size; omega⟩
        exact (hg.block b (Array.getElem?_eq_some_iff.1 ho).1 (fun e => by have := (hr b e.symm).1; omega)).trans ho
      case hIx =>
        rintro c pre A B row ⟨h1, h2, h4⟩ hg hr
        refine ⟨h1, (ownFrom_mono hJx (by omega)) _ A B row h2 hg hr, h4.kept (fun b o h1 h2 ho _ => ?_)⟩
        exact (hg.block b (Array.getElem?_eq_some_iff.1 ho).1 (fun e => by have := (hr b e.symm).1; omega)).trans ho
      case h0 =>
        refine ⟨by rw [List.append_nil]; exact gro _ _ hJm hj, ?_, ?_, ?_, by omega⟩
        · rw [← hw1]; exact (hBy.alloc _).alloc _
        · rw [← hw1]; exact (hBs2.alloc _).alloc _
        · refine hM.kept (fun b o h1 h2 ho _ => ?_)
          rw [← hw1]
          exact ((Below.heap_alloc _ _ b (by simp; omega)).trans (Below.heap_alloc _ _ b h2)).trans ho
      case assign =>
        intro l2 x W2 K2 hK2
        gi_wp2
        exact hK2
      case body =>
        rintro l2 pre x W2 ⟨hj2, hBy2, hBs3, hM2, hsz2⟩ hpre
        have cY2 := hBy2.cell
        have hpre2 : subs s k ++ pre ++ [x] <+: xs := by
          refine List.IsPrefix.trans ?_ hxs
          rw [List.append_assoc]
          exact (List.prefix_append_right_inj _).2 hpre
        obtain ⟨fn, tmps, assign, body, hy, hR⟩ := hY (subs s k ++ pre) x W2 hj2 hpre2
        dsimp only [svE] at hy
        gi_wp2_with fail
        refine ⟨rfl, (round_in l2 hR).mono ?_⟩
        have kM : ∀ W3, Kp n₀ 28 W.heap.size W2 W3 → Marks (W.heap.size + 1) ds wr.heap.size W3 := fun W3 hk3 =>
          hM2.kept (fun b o h1 _ ho hno => hk3.keep b o (by omega) ho (fun cs fr e => by rw [e] at hno; cases hno))
        rintro e W3 (⟨rfl, hj3, hk3⟩ | ⟨rfl, hx3, hk3⟩)
        · gi_wp2
          exact ⟨hk3.later (by omega), by rw [← List.append_assoc]; exact hj3, hk3.keep _ _ (Nat.le_refl _) hBy2 (fun cs fr e => by cases e), (hk3.low.block Bs hBn).trans hBs3, kM W3 hk3, Nat.lt_of_lt_of_le hsz2 hk3.size⟩
        · gi_wp2
          exact ⟨hk3.later (by omega), rfl, by rw [← List.append_assoc]; exact hx3, kM W3 hk3⟩
      case done =>
        rintro D W3 hD ⟨hj3, hBy3, hBs4, hM3, hsz3⟩ hK3
        rw [← subs_succ] at hj3
        have hDlt : D < W3.heap.size := (Array.getElem?_eq_some_iff.1 hK3).1
        gi_wp2_with fail
        exact ⟨⟨k + 1, _, _, _, _, _, _, _, _, _, _, _, _, _, _, _, _, by omega, rfl, ⟨D, hDlt, by omega, rfl, hK3, hM3.le (by omega)⟩, hj3, hBy3, hBs4, by omega⟩, by simp [intOf]; omega⟩
      case stop =>
        rintro D c pre W3 hD hpre ⟨rfl, hx3, hM3⟩ hK3
        have hDlt : D < W3.heap.size := (Array.getElem?_eq_some_iff.1 hK3).1
        have hpre2 : subs s k ++ pre <+: xs := List.IsPrefix.trans ((List.prefix_append_right_inj _).2 hpre) hxs
        gi_wp2_with fail
        exact leave_marks (Z := fun W' => ∃ pre, pre <+: xs ∧ Jx pre W') (fun A b o o' hb hl ho ⟨q, hq, hz⟩ => ⟨q, hq, hJx.putObj o' hz (by omega) hl ho⟩) (fun W' hz => ⟨_, results_none rfl _ _ _, ⟨_, rfl⟩, .inr hz⟩) _ _ W3
          ⟨D, hDlt, by omega, rfl, hK3, hM3.le (by omega)⟩ ⟨_, hpre2, hx3⟩
    · have hd : decide ((k : Int) < (n : Int) + 1) = false := decide_eq_false (by omega)
      obtain rfl : k = n + 1 := by omega
      rw [← Hxs.out] at hj
      gi_wp2_with fail
      exact leave_marks (Z := fun W' => J xs W') (fun A b o o' hb hl ho hz => hJ.putObj o' hz (by omega) hl ho) (fun W' hz => ⟨_, results_none rfl _ _ _, ⟨_, rfl⟩, .inl hz⟩) ds _ wr hM hj
end Go.Proofs.YtfdlmgjjpcdkpaaDoor
