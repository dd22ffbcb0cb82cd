/- The sequence of the sets that a predicate accepts and that contain none yielded before: it keeps a list of its own. -/
import Derived.Test.YtfdlmgjjpcdkpaaDoorGh
namespace Go.Proofs.YtfdlmgjjpcdkpaaDoor
open Go.RowKit Go.Shelf
attribute [local go_sem] Oper.semAt_some

set_option maxRecDepth 100000 in
set_option maxHeartbeats 2000000 in
theorem subsets_seqX (Bs s n₀ : Nat) (w : World) (hs : s < 65536) (hn : n₀ ≤ w.heap.size) :
    SeqX Tryd.prog 71 #[.pointer (some ⟨Bs, 0, none⟩)] (fun x => #[svE x]) n₀ 28 (subs s (cnt s + 1)) w (fun W => Boxed W Bs 28 (.int .u16 (s : Int))) := by
  intro l J Jx W hW hJ hJx hX hY h0
  have b1 : Boxed W Bs 28 (.int .u16 (s : Int)) := hX _ _ h0
  have hnW : n₀ ≤ W.heap.size := Nat.le_trans hn hW.size
  have c1 : (W.alloc (.cells #[.func (.yield l) #[] #[]] 42)).cell? ⟨Bs, 0, none⟩ = some (.int .u16 (s : Int)) := (b1.alloc _).cell
  refine callsIn_of_wp_marks Tryd.func71 rfl trivial ?_ rfl
  simp only [Tryd.ntmps71, List.size_toArray, List.length_cons, List.length_nil, Nat.reduceAdd, Nat.reduceSub, Array.replicate_succ, Array.replicate_zero, List.push_toArray, List.append_toArray, List.nil_append, List.cons_append]
  obtain ⟨n, hn1⟩ : ∃ n, cnt s = n := ⟨_, rfl⟩
  have hcount := count_any s (W.alloc (.cells #[.func (.yield l) #[] #[]] 42)) hs
  have hn16 : n ≤ 16 := by rw [← hn1]; exact cnt_le s
  rw [hn1] at hcount hY ⊢
  obtain ⟨xs, Hxs⟩ : ∃ xs, Hid (xs = subs s (n + 1)) := ⟨_, rfl⟩
  rw [← Hxs.out] at hY ⊢
  gi_wp2_with fail
  refine ⟨trivial, rfl, (callsIn_wide.2 hcount).mono ?_⟩
  rintro e W1 ⟨rfl, hu1⟩
  gi_wp2_with fail
  refine wpIn_loop (fun a wr => ∃ (k : Nat) (ds : List Deferred) (u3 u4 u5 u6 u9 u10 u11 u12 u13 u14 u15 u16 u17 u18 u19 : Value), k ≤ n + 1 ∧ a = { tmps := #[.func (.yield l) #[] #[], .pointer (some ⟨Bs, 0, none⟩), .pointer (some ⟨W.heap.size, 0, none⟩), u3, u4, u5, u6, .int .i64 ((n : Int) + 1), .int .i64 (k : Int), u9, u10, u11, u12, u13, u14, u15, u16, u17, u18, u19], defers := ds } ∧
    Marks (W.heap.size + 1) ds wr.heap.size wr ∧ J (subs s k) wr ∧ Boxed wr W.heap.size 42 (.func (.yield l) #[] #[]) ∧ Boxed wr Bs 28 (.int .u16 (s : Int)) ∧ W.heap.size < wr.heap.size)
    (fun a _ => n + 1 - (intOf (a.tmps.getD 8 undef)).toNat) ?_ ?_
  · have hj1 : J (subs s 0) W1 := hJ _ _ W1 none (hJ _ _ _ none h0 (World.grownBy_alloc W _ none) (fun r e => by cases e)) (up_grown hu1) (fun r e => by cases e)
    have hsz := hu1.size
    simp at hsz
    exact ⟨0, [], _, _, _, _, _, _, _, _, _, _, _, _, _, _, _, by omega, rfl, trivial, hj1, (Boxed.new W _ _).kept (up_grown hu1) (by simp), (b1.alloc _).kept (up_grown hu1) (by simp), by omega⟩
  · rintro a wr ⟨k, ds, u3, u4, u5, u6, u9, u10, u11, u12, u13, u14, u15, u16, u17, u18, u19, hk, rfl, hM, hj, hBy, hBs2, hsz⟩
    have cS := hBs2.cell
    have cY := hBy.cell
    by_cases hlt : k < n + 1
    · have hk2 : k ≤ n := by omega
      have hd : decide ((k : Int) < (n : Int) + 1) = true := decide_eq_true (by omega)
      gi_wp2_with fail
      refine ⟨trivial, rfl, (choose_any s k wr).mono ?_⟩
      rintro e w1 ⟨rfl, rfl⟩
      obtain ⟨w1, hw1⟩ : ∃ w1, (wr.alloc (.cells #[.int .u16 (s : Int)] 28)).alloc (.cells #[.int .i64 (k : Int)] 3) = w1 := ⟨_, rfl⟩
      rw [hw1]
      gi_wp2_with fail
      have hs1 : w1.heap.size = wr.heap.size + 2 := by rw [← hw1]; simp
      have bx1 : Boxed w1 wr.heap.size 28 (.int .u16 (s : Int)) := by rw [← hw1]; exact (Boxed.new wr _ _).alloc _
      have bx2 : Boxed w1 (wr.heap.size + 1) 3 (.int .i64 (k : Int)) := by
        rw [← hw1]
        have := Boxed.new (wr.alloc (.cells #[.int .u16 (s : Int)] 28)) 3 (.int .i64 (k : Int))
        rwa [World.size_alloc] at this
      have gro : ∀ (I : List Nat → World → Prop) (pre : List Nat), OwnFrom wr.heap.size I → I pre wr → I pre w1 := by
        intro I pre hI h
        rw [← hw1]
        exact hI.alloc _ (hI.alloc _ h)
      have hxs : subs s (k + 1) <+: xs := by
        rw [Hxs.out]
        obtain ⟨d, hdE⟩ : ∃ d, n + 1 = (k + 1) + d := ⟨n - k, by omega⟩
        rw [hdE]
        exact subs_prefix s (k + 1) d
      rw [subs_succ] at hxs
      have hJm : OwnFrom wr.heap.size J := ownFrom_mono hJ (by omega)
      refine range_walk (gf := 83) (lb := #[.pointer (some ⟨wr.heap.size, 0, none⟩), .pointer (some ⟨wr.heap.size + 1, 0, none⟩)]) rfl (enters_of Tryd.func83 (by kernel_rfl) rfl)
        (choose_seq wr.heap.size (wr.heap.size + 1) s n₀ (k : Int) w1 hs (by omega) bx1 bx2) (Below.refl _ _) (by omega) rfl
        (fun pre W2 => J (subs s k ++ pre) W2 ∧ Boxed W2 W.heap.size 42 (.func (.yield l) #[] #[]) ∧ Boxed W2 Bs 28 (.int .u16 (s : Int)) ∧ Marks (W.heap.size + 1) ds wr.heap.size W2 ∧ wr.heap.size < W2.heap.size)
        (fun c pre W2 => c = .ret ∧ Jx (subs s k ++ pre) W2 ∧ Marks (W.heap.size + 1) ds wr.heap.size W2)
        ?hI ?hIx ?h0
        (fun x => { tmps := #[.func (.yield l) #[] #[], .pointer (some ⟨Bs, 0, none⟩), .pointer (some ⟨W.heap.size, 0, none⟩), .int .i64 (k : Int), .int .u16 (x : Int), u5, u6, .int .i64 ((n : Int) + 1), .int .i64 (k : Int), .bool true, .int .i64 (k : Int), .int .u16 (s : Int), .int .i64 (k : Int), .func (.func 83) #[] #[.pointer (some ⟨wr.heap.size, 0, none⟩), .pointer (some ⟨wr.heap.size + 1, 0, none⟩)], .int .u16 (x : Int), u15, u16, u17, u18, u19], defers := [] })
        ?assign ?body ?done ?stop
      case hI =>
        rintro pre A B row ⟨h1, h2, h3, h4, h5⟩ hg hr
        refine ⟨(ownFrom_mono hJ (by omega)) _ A B row h1 hg hr, (boxed_own _ _ (fun _ : Unit => _)).from w1.heap.size () A B row h2 hg hr, (boxed_own _ _ (fun _ : Unit => _)).from w1.heap.size () A B row h3 hg hr, h4.kept (fun b o h1 h2 ho _ => ?_), by have := hg.size; omega⟩
        exact (hg.block b (Array.getElem?_eq_some_iff.1 ho).1 (fun e => by have := (hr b e.symm).1; omega)).trans ho
      case hIx =>
        rintro c pre A B row ⟨h1, h2, h4⟩ hg hr
        refine ⟨h1, (ownFrom_mono hJx (by omega)) _ A B row h2 hg hr, h4.kept (fun b o h1 h2 ho _ => ?_)⟩
        exact (hg.block b (Array.getElem?_eq_some_iff.1 ho).1 (fun e => by have := (hr b e.symm).1; omega)).trans ho
      case h0 =>
        refine ⟨by rw [List.append_nil]; exact gro _ _ hJm hj, ?_, ?_, ?_, by omega⟩
        · rw [← hw1]; exact (hBy.alloc _).alloc _
        · rw [← hw1]; exact (hBs2.alloc _).alloc _
        · refine hM.kept (fun b o h1 h2 ho _ => ?_)
          rw [← hw1]
          exact ((Below.heap_alloc _ _ b (by simp; omega)).trans (Below.heap_alloc _ _ b h2)).trans ho
      case assign =>
        intro l2 x W2 K2 hK2
        gi_wp2
        exact hK2
      case body =>
        rintro l2 pre x W2 ⟨hj2, hBy2, hBs3, hM2, hsz2⟩ hpre
        have cY2 := hBy2.cell
        have hpre2 : subs s k ++ pre ++ [x] <+: xs := by
          refine List.IsPrefix.trans ?_ hxs
          rw [List.append_assoc]
          exact (List.prefix_append_right_inj _).2 hpre
        obtain ⟨fn, tmps, assign, body, hy, hR⟩ := hY (subs s k ++ pre) x W2 hj2 hpre2
        dsimp only [svE] at hy
        gi_wp2_with fail
        refine ⟨rfl, (round_in l2 hR).mono ?_⟩
        have kM : ∀ W3, Kp n₀ 28 W.heap.size W2 W3 → Marks (W.heap.size + 1) ds wr.heap.size W3 := fun W3 hk3 =>
          hM2.kept (fun b o h1 _ ho hno => hk3.keep b o (by omega) ho (fun cs fr e => by rw [e] at hno; cases hno))
        rintro e W3 (⟨rfl, hj3, hk3⟩ | ⟨rfl, hx3, hk3⟩)
        · gi_wp2
          exact ⟨hk3.later (by omega), by rw [← List.append_assoc]; exact hj3, hk3.keep _ _ (Nat.le_refl _) hBy2 (fun cs fr e => by cases e), hX _ _ hj3, kM W3 hk3, Nat.lt_of_lt_of_le hsz2 hk3.size⟩
        · gi_wp2
          exact ⟨hk3.later (by omega), rfl, by rw [← List.append_assoc]; exact hx3, kM W3 hk3⟩
      case done =>
        rintro D W3 hD ⟨hj3, hBy3, hBs4, hM3, hsz3⟩ hK3
        rw [← subs_succ] at hj3
        have hDlt : D < W3.heap.size := (Array.getElem?_eq_some_iff.1 hK3).1
        gi_wp2_with fail
        exact ⟨⟨k + 1, _, _, _, _, _, _, _, _, _, _, _, _, _, _, _, _, by omega, rfl, ⟨D, hDlt, by omega, rfl, hK3, hM3.le (by omega)⟩, hj3, hBy3, hBs4, by omega⟩, by simp [intOf]; omega⟩
      case stop =>
        rintro D c pre W3 hD hpre ⟨rfl, hx3, hM3⟩ hK3
        have hDlt : D < W3.heap.size := (Array.getElem?_eq_some_iff.1 hK3).1
        have hpre2 : subs s k ++ pre <+: xs := List.IsPrefix.trans ((List.prefix_append_right_inj _).2 hpre) hxs
        gi_wp2_with fail
        exact leave_marks (Z := fun W' => ∃ pre, pre <+: xs ∧ Jx pre W') (fun A b o o' hb hl ho ⟨q, hq, hz⟩ => ⟨q, hq, hJx.putObj o' hz (by omega) hl ho⟩) (fun W' hz => ⟨_, results_none rfl _ _ _, ⟨_, rfl⟩, .inr hz⟩) _ _ W3
          ⟨D, hDlt, by omega, rfl, hK3, hM3.le (by omega)⟩ ⟨_, hpre2, hx3⟩
    · have hd : decide ((k : Int) < (n : Int) + 1) = false := decide_eq_false (by omega)
      obtain rfl : k = n + 1 := by omega
      rw [← Hxs.out] at hj
      gi_wp2_with fail
      exact leave_marks (Z := fun W' => J xs W') (fun A b o o' hb hl ho hz => hJ.putObj o' hz (by omega) hl ho) (fun W' hz => ⟨_, results_none rfl _ _ _, ⟨_, rfl⟩, .inl hz⟩) ds _ wr hM hj

/-- A range over a function that reads what its caller keeps. -/
theorem range_walkX {α : Type} {P : Program} {n : Nat} {g : Operand} {ps : Array Tmp} {assign body : Code} {Q : Exit → Act → World → Prop} {a : Act} {w : World}
    {gf : Nat} {lb : Array Value} (hg : a.eval g = .func (.func gf) #[] lb) (eg : ∀ args w, (callFunc gf args).run P w = .ok (.enter gf args) w)
    {encs : α → Array Value} {n₀ : Nat} {e : TypeId} {xs : List α} {w0 : World} {X : World → Prop} (hseq : SeqX P gf lb encs n₀ e xs w0 X) (hb0 : Below w0.heap.size w0 w) (hn₀ : n₀ ≤ w.heap.size) (hps : ∀ x, ps.size = (encs x).size)
    (I : List α → World → Prop) (Ix : Code → List α → World → Prop) (hIX : ∀ pre W, I pre W → X W) (hI : OwnFrom w.heap.size I) (hIx : ∀ c, OwnFrom w.heap.size (Ix c)) (h0 : I [] w) (a₁ : α → Act)
    (hassign : ∀ (l : Nat) (x : α) (W : World) (K : Act → World → Prop), K (a₁ x) W →
      assign.wpIn (Fence.wide.inRound l) (n - 1 - 1) P (Exit.then K (fun _ _ _ => False)) { tmps := (ps.zip (encs x)).foldl (fun t (p, v) => t.setIfInBounds p v) a.tmps, defers := [] } W)
    (hbody : ∀ (l : Nat) (pre : List α) (x : α) (W : World), I pre W → pre ++ [x] <+: xs → body.wpIn (Fence.wide.inRound l) (n - 1 - 1) P (rgPost w.heap.size n₀ e I Ix (pre ++ [x]) W) (a₁ x) W)
    (hdone : ∀ (D : Nat) (W : World), w.heap.size ≤ D → I xs W → W.heap[D]? = some (.deferred (some [])) → Q .normal { a with defers := { target := .collected D, args := #[] } :: a.defers } W)
    (hstop : ∀ (D : Nat) (c : Code) (pre : List α) (W : World), w.heap.size ≤ D → pre <+: xs → Ix c pre W → W.heap[D]? = some (.deferred (some [])) → c.wpIn Fence.wide n P Q { a with defers := { target := .collected D, args := #[] } :: a.defers } W) :
    (Code.rangeFunc g ps assign body).wpIn Fence.wide n P Q a w :=
  range_walkH hg eg hseq hb0 hn₀ hps I Ix hIX hI hIx h0 (fun x a' _ => a' = a₁ x) (fun x a' s A B row h _ _ => h)
    (fun l pre x W K hi hpre hsz hK => hassign l x W K (hK _ _ (Kp.refl _ _ _ _) hi rfl)) (fun l pre x a' W hi ha hpre => by subst ha; exact hbody l pre x W hi hpre) hdone hstop

/-- What is yielded of a list of sets: those that l accepts and that contain none yielded before. -/
def sea (l xs : List Nat) : List Nat := xs.foldl (fun ys x => if acc ys x || !acc l x then ys else ys ++ [x]) []
theorem sea_snoc (l xs : List Nat) (x : Nat) : sea l (xs ++ [x]) = if acc (sea l xs) x || !acc l x then sea l xs else sea l xs ++ [x] := by
  unfold sea
  rw [List.foldl_append]
  rfl
theorem sea_grow (l t ys : List Nat) : ys <+: t.foldl (fun ys x => if acc ys x || !acc l x then ys else ys ++ [x]) ys := by
  induction t generalizing ys with
  | nil => exact List.prefix_refl _
  | cons x r ih =>
    rw [List.foldl_cons]
    refine List.IsPrefix.trans ?_ (ih _)
    split
    · exact List.prefix_refl _
    · exact List.prefix_append _ _
theorem sea_prefix {l pre xs : List Nat} (h : pre <+: xs) : sea l pre <+: sea l xs := by
  obtain ⟨t, rfl⟩ := h
  unfold sea
  rw [List.foldl_append]
  exact sea_grow l t _
theorem sea_mem (l : List Nat) : ∀ (xs : List Nat), ∀ x ∈ sea l xs, x ∈ xs := by
  intro xs
  have key : ∀ (t ys : List Nat), ∀ x ∈ t.foldl (fun ys x => if acc ys x || !acc l x then ys else ys ++ [x]) ys, x ∈ ys ∨ x ∈ t := by
    intro t
    induction t with
    | nil => intro ys x hx; exact .inl hx
    | cons y r ih =>
      intro ys x hx
      rw [List.foldl_cons] at hx
      rcases ih _ x hx with h | h
      · split at h
        · exact .inl h
        · rcases List.mem_append.1 h with h | h
          · exact .inl h
          · simp at h; exact .inr (by simp [h])
      · exact .inr (by simp [h])
  intro x hx
  rcases key xs [] x hx with h | h
  · cases h
  · exact h
theorem sea_len (l xs : List Nat) : (sea l xs).length ≤ xs.length := by
  have key : ∀ (t ys : List Nat), (t.foldl (fun ys x => if acc ys x || !acc l x then ys else ys ++ [x]) ys).length ≤ ys.length + t.length := by
    intro t
    induction t with
    | nil => intro ys; simp
    | cons y r ih =>
      intro ys
      rw [List.foldl_cons]
      refine Nat.le_trans (ih _) ?_
      split <;> simp <;> omega
  have := key xs []
  simpa [sea] using this
/-- All subsets of the first n servers, in order. -/
def allL (n : Nat) : List Nat := (List.range (n + 1)).flatMap fun k => (List.range (2 ^ n)).filter fun x => cnt x == k
set_option maxRecDepth 100000 in
theorem subs_all7 : ∀ n : Fin 8, subs (2 ^ n.val - 1) (cnt (2 ^ n.val - 1) + 1) = allL n.val := by decide +kernel
theorem allL_lt {n : Nat} : ∀ x ∈ allL n, x < 2 ^ n := by
  intro x hx
  obtain ⟨k, _, h⟩ := List.mem_flatMap.1 hx
  exact List.mem_range.1 (List.mem_filter.1 h).1
set_option maxRecDepth 100000 in
theorem allL_len7 : ∀ n : Fin 8, (allL n.val).length ≤ 128 := by decide +kernel

/-- What a use of the sequence reads: n, the predicate, and the list that it asks. -/
def SX (bn ba bl : Nat) (n : Int) (A : Option Addr) (m c : Nat) (l : List Nat) (W : World) : Prop :=
  Boxed W bn 3 (.int .i64 n) ∧ Boxed W ba 42 (.func (.func 34) #[] #[.pointer (some ⟨bl, 0, none⟩)]) ∧ Boxed W bl 22 (.slice A m c) ∧ Vals W A (us l)
set_option maxRecDepth 100000 in
theorem law_acc (bl : Nat) (A : Option Addr) (m c : Nat) (l : List Nat) (x : Nat) (w : World) (hb : Boxed w bl 22 (.slice A m c)) (hA : Vals w A (us l)) (Hm : Hid (m = l.length)) (HS : Hid (Small16 l)) (hx : x < 65536) (hm : m ≤ 1000000) :
    Calls Tryd.prog 34 #[.int .u16 (x : Int), .pointer (some ⟨bl, 0, none⟩)] w fun e w' => e = .returned (.bool (acc l x)) ∧ w' = w := by
  have hc := hb.cell
  have hcall := racc_any A m c l x w hA Hm HS hx hm
  go_enter Tryd.func34, Tryd.ntmps34
  go_wp2_with fail
  refine hcall.mono ?_
  rintro e w1 ⟨rfl, rfl⟩
  go_wp2
  go_ret
  exact ⟨rfl, rfl⟩
set_option maxRecDepth 100000 in
theorem search_any (n : Int) (ff : Fn) (bl : Nat) (w : World) : CallsIn Fence.wide 0 Tryd.prog 33 #[.int .i64 n, .func ff #[] #[.pointer (some ⟨bl, 0, none⟩)]] w fun e w' =>
    e = .returned (.func (.func 56) #[] #[.pointer (some ⟨w.heap.size, 0, none⟩), .pointer (some ⟨w.heap.size + 1, 0, none⟩)]) ∧ w' = (w.alloc (.cells #[.int .i64 n] 3)).alloc (.cells #[.func ff #[] #[.pointer (some ⟨bl, 0, none⟩)]] 42) := by
  refine callsIn_of_wp Tryd.func33 rfl trivial ?_ rfl
  simp only [Tryd.ntmps33, List.size_toArray, List.length_cons, List.length_nil, Nat.reduceAdd, Nat.reduceSub, Array.replicate_succ, Array.replicate_zero, List.push_toArray, List.append_toArray, List.nil_append, List.cons_append]
  gi_wp2
  go_ret
  exact ⟨rfl, rfl⟩
set_option maxRecDepth 100000 in
set_option maxHeartbeats 2000000 in
theorem search_bad (bn ba bl n₀ : Nat) (n : Int) (A : Option Addr) (m c : Nat) (l : List Nat) (w : World) (hn : (fullS n).2 ≠ 0) :
    SeqG Tryd.prog 56 #[.pointer (some ⟨bn, 0, none⟩), .pointer (some ⟨ba, 0, none⟩)] (fun x => #[svE x]) n₀ 28 [] w (SX bn ba bl n A m c l) := by
  intro y J Jx W hW hJ hJx hX hY h0
  obtain ⟨bN, _, _, _⟩ := hX _ _ _ h0
  have c1 : (W.alloc (.cells #[.func (.yield y) #[] #[]] 42)).cell? ⟨bn, 0, none⟩ = some (.int .i64 n) := (bN.alloc _).cell
  have hfull := full_any n (W.alloc (.cells #[.func (.yield y) #[] #[]] 42))
  obtain ⟨fs, hfs⟩ : ∃ fs, fullS n = fs := ⟨_, rfl⟩
  rw [hfs] at hfull hn
  have q : (fs.2 != 0) = true := by rw [bne_iff_ne]; exact hn
  clear hfs hn hY
  refine callsIn_of_wp Tryd.func56 rfl trivial ?_ rfl
  simp only [Tryd.ntmps56, List.size_toArray, List.length_cons, List.length_nil, Nat.reduceAdd, Nat.reduceSub, Array.replicate_succ, Array.replicate_zero, List.push_toArray, List.append_toArray, List.nil_append, List.cons_append]
  gi_wp2_with fail
  refine ⟨trivial, rfl, (callsIn_wide.2 hfull).mono ?_⟩
  rintro e W1 ⟨rfl, hu1⟩
  gi_wp2

  refine bodyPost_ret (results_none rfl _ _ _) rfl ?_
  exact ⟨⟨_, rfl⟩, .inl ⟨_, hJ.up hu1 (hJ.alloc _ h0)⟩⟩
end Go.Proofs.YtfdlmgjjpcdkpaaDoor
