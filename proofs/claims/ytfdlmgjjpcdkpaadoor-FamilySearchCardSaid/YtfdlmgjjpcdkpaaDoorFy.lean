/- Walks: the maximal sets of a list. -/
import Derived.Test.YtfdlmgjjpcdkpaaDoorFx
import Derived.Test.YtfdlmgjjpcdkpaaDoorSr
import Derived.LoopNIn
import Derived.LoopIn
namespace Go.Proofs.YtfdlmgjjpcdkpaaDoor
open Go.RowKit Go.Shelf Go.Lib Go.Sort
attribute [local go_sem] Oper.semAt_some

/-- The statement 'for .. := range g { .. }' whose body never leaves. -/
theorem range_all {α : Type} {P : Program} {g : Operand} {ps : Array Tmp} {assign body : Code} {Q : Exit → Act → World → Prop} {a : Act} {w : World}
    {gf : Nat} {lb : Array Value} (hg : a.eval g = .func (.func gf) #[] lb) (eg : ∀ args w, (callFunc gf args).run P w = .ok (.enter gf args) w)
    {encs : α → Array Value} {n₀ : Nat} {e : TypeId} {xs : List α} {w0 : World} {X : World → Prop} (hseq : SeqX P gf lb encs n₀ e xs w0 X) (hb0 : Below w0.heap.size w0 w) (hn₀ : n₀ ≤ w.heap.size) (hps : ∀ x, ps.size = (encs x).size)
    (I : List α → World → Prop) (hIX : ∀ pre W, I pre W → X W) (hI : OwnFrom w.heap.size I) (h0 : I [] w) (Ax : α → Act → World → Prop) (hAx : ∀ x a', OwnFrom w.heap.size (fun (_ : Unit) W => Ax x a' W))
    (hassign : ∀ (l : Nat) (pre : List α) (x : α) (W : World) (K : Act → World → Prop), I pre W → pre ++ [x] <+: xs → w.heap.size ≤ W.heap.size → (∀ a' W', Kp n₀ e w.heap.size W W' → I pre W' → Ax x a' W' → K a' W') →
      assign.wpIn (Fence.wide.inRound l) 0 P (Exit.then K (fun _ _ _ => False)) { tmps := (ps.zip (encs x)).foldl (fun t (p, v) => t.setIfInBounds p v) a.tmps, defers := [] } W)
    (hbody : ∀ (l : Nat) (pre : List α) (x : α) (a' : Act) (W : World), I pre W → Ax x a' W → pre ++ [x] <+: xs → body.wpIn (Fence.wide.inRound l) 0 P (rgPost w.heap.size n₀ e I (fun _ _ _ => False) (pre ++ [x]) W) a' W)
    (hdone : ∀ (D : Nat) (W : World), w.heap.size ≤ D → I xs W → W.heap[D]? = some (.deferred (some [])) → Q .normal { a with defers := { target := .collected D, args := #[] } :: a.defers } W) :
    (Code.rangeFunc g ps assign body).wp P Q a w := by
  refine (wpIn_wide (n := 0)).1 ?_
  refine range_walkH hg eg hseq hb0 hn₀ hps I (fun _ _ _ => False) hIX hI (fun c pre A B row hs hg hr => hs) h0 Ax hAx hassign hbody ?_ ?_
  · intro D W hD hi hk
    exact hdone D W hD hi hk
  · rintro D c pre W hD _ h hk
    exact h.elim
/-- A set of a list, with its place. -/
def bkE (l : List Nat) (i : Nat) : Array Value := #[.int .i64 (i : Int), .int .u16 ((l.getD i 0 : Nat) : Int)]
theorem rev_take {n r : Nat} (hr : r < n) : (List.range n).reverse.take (n - r) = (List.range n).reverse.take (n - (r + 1)) ++ [r] := by
  have e : n - r = (n - (r + 1)) + 1 := by omega
  rw [e, List.take_add_one, List.getElem?_reverse (by simp; omega)]
  simp
  rw [List.getElem?_range (by omega)]
  simp
  omega
set_option maxRecDepth 100000 in
set_option maxHeartbeats 2000000 in
theorem backward_seq (Bx n c n₀ : Nat) (A : Option Addr) (l : List Nat) (w : World) (Hn : Hid (n = l.length)) (hn : n ≤ 900000) :
    SeqX Tryd.prog 68 #[.pointer (some ⟨Bx, 0, none⟩)] (bkE l) n₀ 28 (List.range n).reverse w (fun W => Boxed W Bx 22 (.slice A n c) ∧ Vals W A (us l)) := by
  intro l2 J Jx W hW hJ hJx hX hY h0
  obtain ⟨b1, hV⟩ := hX _ _ h0
  have c1 := b1.cell
  have HX := hide hX
  clear hX
  obtain ⟨xs, Hxs⟩ : ∃ xs, Hid (xs = (List.range n).reverse) := ⟨_, rfl⟩
  rw [← Hxs.out] at hY ⊢
  refine callsIn_of_wp Tryd.func68 rfl trivial ?_ rfl
  simp only [Tryd.ntmps68, List.size_toArray, List.length_cons, List.length_nil, Nat.reduceAdd, Nat.reduceSub, Array.replicate_succ, Array.replicate_zero, List.push_toArray, List.append_toArray, List.nil_append, List.cons_append]
  gi_wp2
  gi_loopw [3] (fun v wr => ∃ (r : Nat) (z : Int), v = .int .i64 z ∧ Hid (z = (r : Int) - 1) ∧ r ≤ n ∧ J (xs.take (n - r)) wr) (fun v _ => (intOf v + 1).toNat)
  case atStart => exact ⟨n, _, rfl, by show _ = _; rfl, by omega, by rw [Nat.sub_self, List.take_zero]; exact h0⟩
  case round =>
    obtain ⟨r, z, rfl, HZ, hr, hj⟩ := hrel
    obtain ⟨hbx, hv⟩ := HX.out _ _ hj
    have cx := hbx.cell
    by_cases h0r : r = 0
    · have hz : decide (0 ≤ z) = false := decide_eq_false (by rw [HZ.out]; omega)
      have HJ := hide hj
      rw [h0r, Nat.sub_zero, List.take_of_length_le (by rw [Hxs.out]; simp)] at HJ
      clear hj h0r
      gi_wp2
      go_end0
      exact ⟨⟨_, rfl⟩, .inl HJ.out⟩
    · obtain ⟨k, hrk⟩ : ∃ k, r = k + 1 := ⟨r - 1, by omega⟩
      have hz : z = (k : Int) := by rw [HZ.out]; omega
      subst hz
      have hk1 : k < l.length := by rw [← Hn.out]; omega
      have hkn : k < n := by omega
      obtain ⟨p, hp⟩ : ∃ p, l.getD k 0 = p := ⟨_, rfl⟩
      have hvx := us_at hk1
      have hgd : l.getD k 0 = l[k]'hk1 := by simp [List.getD, hk1]
      rw [← hgd, hp] at hvx
      obtain ⟨ad, hAd, hbl, hcell⟩ := hv.at_ hvx
      subst hAd
      have hx2 : xs.take (n - k) = xs.take (n - (k + 1)) ++ [k] := by rw [Hxs.out]; exact rev_take hkn
      rw [hrk] at hj
      have hpre : xs.take (n - (k + 1)) ++ [k] <+: xs := by rw [← hx2]; exact List.take_prefix _ _
      obtain ⟨fn, tmps, assign, body, hy, hR⟩ := hY _ k wr hj hpre
      dsimp only [bkE] at hy
      rw [hp] at hy
      have hd : decide ((0 : Int) ≤ (k : Int)) = true := decide_eq_true (by omega)
      clear hvx hp hgd
      gi_wp2_with fail
      refine ⟨rfl, hR.mono ?_⟩
      rintro e W3 (⟨rfl, hj3, hk3⟩ | ⟨rfl, hx3, hk3⟩)
      · rw [← hx2] at hj3
        gi_wp2
        go_roundw
        case rel => exact ⟨k, (k : Int) - 1, by go_num, rfl, by omega, hj3⟩
        case measure => simp [intOf]
      · gi_wp2
        refine bodyPost_ret (results_none rfl _ _ _) rfl ?_
        exact ⟨⟨_, rfl⟩, .inr ⟨_, hpre, hx3⟩⟩
set_option maxRecDepth 100000 in
theorem backward_any (A : Option Addr) (n c : Nat) (w : World) : Calls Tryd.prog 47 #[.slice A n c] w fun e w' =>
    e = .returned (.func (.func 68) #[] #[.pointer (some ⟨w.heap.size, 0, none⟩)]) ∧ w' = w.alloc (.cells #[.slice A n c] 22) := by
  go_enter Tryd.func47, Tryd.ntmps47
  go_wp2
  go_ret
  exact ⟨rfl, rfl⟩
set_option maxRecDepth 100000 in
theorem max_pred (s B : Nat) (w : World) (hs : s < 65536) (hB : Boxed w B 28 (.int .u16 (s : Int))) : PredAt Tryd.prog 48 #[.pointer (some ⟨B, 0, none⟩)] eu (fun x => con x.1 s) w := by
  intro W x hb
  have hB2 : Boxed W B 28 (.int .u16 (s : Int)) := (hb.block B hB.lt).trans hB
  have hc := hB2.cell
  obtain ⟨x, hx⟩ := x
  have handn := andn16 hs hx
  have hq := con_q x s
  show Calls Tryd.prog 48 #[.int .u16 (x : Int), .pointer (some ⟨B, 0, none⟩)] W fun e w' => e = .returned (.bool (con x s)) ∧ ∃ q, w' = W.drewN q
  obtain ⟨b, hbb⟩ : ∃ b, con x s = b := ⟨_, rfl⟩
  obtain ⟨y, hy⟩ : ∃ y, andN s x = y := ⟨_, rfl⟩
  rw [hbb] at hq ⊢
  rw [hy] at handn hq
  clear hb hB hB2
  go_enter Tryd.func48, Tryd.ntmps48
  go_wp2
  go_ret
  exact ⟨rfl, 0, rfl⟩
theorem pk_any (l : List Nat) (h : Small16 l) (p : Nat → Bool) : ((pk l h).any fun x => p x.1) = l.any p := by
  conv => rhs; rw [← pk_val l h]
  rw [List.any_map]
  rfl
theorem pk_cell {w : World} {g : Nat} {l : List Nat} {h : Small16 l} {A : Option Addr} (hV : Vals w A (us l)) (hA : A = some ⟨g, 0, none⟩) : ∀ j, j < (pk l h).length → w.cell? ⟨g, 0 + j, none⟩ = some (eu (pk l h)[j]!) := by
  intro j hj
  have hjl : j < l.length := by rw [pk_len] at hj; exact hj
  have e : eu (pk l h)[j]! = .int .u16 ((l[j]'hjl : Nat) : Int) := by
    rw [getElem!_pos _ j hj]
    show sv ((pk l h)[j]'hj).1 = _
    have : ((pk l h).map (·.1))[j]? = l[j]? := by rw [pk_val]
    rw [List.getElem?_map, List.getElem?_eq_getElem hj, List.getElem?_eq_getElem hjl] at this
    simp only [Option.map_some, Option.some.injEq] at this
    rw [this]
    rfl
  rw [e]
  subst hA
  obtain ⟨ad, hAd, _, hc⟩ := hV.at_ (us_at hjl)
  injection hAd with hAd
  subst hAd
  rw [← hc]
  congr 1
  unfold Addr.add
  split <;> simp_all
theorem contains_any (v : Value) (q base s B : Nat) (ls : List Nat) (w : World) (hown : w.ownsRow base 28 1 v q (us ls)) (HQ : Hid (Small16 ls)) (hs : s < 65536) (hB : Boxed w B 28 (.int .u16 (s : Int))) (hq : q ≤ 500000) :
    Calls Tryd.prog 49 #[v, .func (.func 48) #[] #[.pointer (some ⟨B, 0, none⟩)]] w fun e w' => e = .returned (.bool (accBy ls s)) ∧ ∃ m, w' = w.drewN m := by
  have hlen := own_len hown
  rcases hown.2 with ⟨rfl, hz⟩ | ⟨g, cap, cur, rfl, hbase, hgb, r1, r2, r3, r4⟩
  · have hl : ls = [] := List.length_eq_zero_iff.1 (by omega)
    subst hl
    subst hz
    refine (Tryd.slices_ContainsFunc_empty (α := U16) none 0 _ w).mono ?_
    rintro e w2 ⟨rfl, rfl⟩
    exact ⟨rfl, 0, rfl⟩
  · obtain ⟨A1, c1, he, _, hV, _, _⟩ := own_vals hown
    injection he with he1 he2 he3
    have hpl : (pk ls HQ.out).length = q := by rw [pk_len, hlen]
    have hc := Tryd.slices_ContainsFunc eu (fun x => con x.1 s) 48 #[.pointer (some ⟨B, 0, none⟩)] (enters_of Tryd.func48 (by kernel_rfl) rfl) g 0 q cap (pk ls HQ.out) w (max_pred s B w hs hB) (by omega) (by omega) (pk_cell hV he1.symm)
    rw [List.take_of_length_le (by omega), pk_any ls HQ.out (fun x => con x s)] at hc
    exact hc
theorem reverse_any (v : Value) (q base : Nat) (ls : List Nat) (w : World) (hown : w.ownsRow base 28 1 v q (us ls)) (HQ : Hid (Small16 ls)) (hq : q ≤ 500000) :
    Calls Tryd.prog 50 #[v] w fun e w' => e = .returned (.tuple #[]) ∧ w'.ownsRow base 28 1 v q (us ls.reverse) ∧ w.grownBy w' v.ownBlock := by
  have hlen := own_len hown
  rcases hown.2 with ⟨rfl, hz⟩ | ⟨g, cap, cur, rfl, hbase, hgb, r1, r2, r3, r4⟩
  · have hl : ls = [] := List.length_eq_zero_iff.1 (by omega)
    subst hl
    subst hz
    refine (Tryd.slices_Reverse_empty (α := U16) none 0 w).mono ?_
    rintro e w2 ⟨rfl, rfl⟩
    exact ⟨rfl, hown, World.grownBy.refl _ _⟩
  · have hpl : (pk ls HQ.out).length = q := by rw [pk_len, hlen]
    have hH : Holds eu w g 0 (pk ls HQ.out).toArray := holds_of_us hgb (by rw [pk_eu, hpl]; simpa using r4)
    have hr := Tryd.slices_Reverse eu eu_one g 0 cap (pk ls HQ.out) w hH (by omega)
    rw [hpl] at hr
    refine hr.mono ?_
    rintro e w2 ⟨rfl, n, rfl⟩
    have hfin := own_put (w := w) (n := n) (os := #[]) (ss := pk ls HQ.out) (ts := (pk ls HQ.out).reverse) (by simp) hbase hgb (by rw [hpl]; exact r1) r2 r3
    have hgr := grownBy_put (w := w) (g := g) (n := n) (os := #[]) (pk ls HQ.out).reverse.toArray
    unfold sortWorld at hfin hgr
    rw [grow_empty] at hfin hgr
    rw [hpl, List.map_reverse, pk_eu] at hfin
    have : us ls.reverse = (us ls).reverse := by unfold us; rw [List.map_reverse]
    rw [this]
    exact ⟨rfl, hfin, hgr⟩
theorem maxK_step {F ls : List Nat} {k x : Nat} (h : F[k]? = some x) : maxK ls (F.drop k) = if accBy ls x then maxK ls (F.drop (k + 1)) else maxK (ls ++ [x]) (F.drop (k + 1)) := by
  obtain ⟨hk, rfl⟩ := List.getElem?_eq_some_iff.1 h
  rw [drop_at F k hk]
  rfl
theorem rev_get {s : List Nat} {pre : List Nat} {x n : Nat} (hn : n = s.length) (h : pre ++ [x] <+: (List.range n).reverse) : s.reverse[pre.length]? = some (s.getD x 0) ∧ x < n := by
  obtain ⟨t, ht⟩ := h
  have hl := congrArg List.length ht
  simp at hl
  have h1 : ((List.range n).reverse)[pre.length]? = some x := by
    rw [← ht]
    simp
  rw [List.getElem?_reverse (by simp; omega)] at h1
  simp only [List.length_range] at h1
  have h2 := List.getElem?_eq_some_iff.1 h1
  obtain ⟨h3, h4⟩ := h2
  simp only [List.getElem_range] at h4
  refine ⟨?_, by omega⟩
  rw [List.getElem?_reverse (by omega), ← hn, h4, List.getD, List.getElem?_eq_getElem (show x < s.length by omega)]
  rfl
theorem maxE_ok {l : List Nat} (h : far l = false) : maxE l = if 400 < (maxS l).length then ([], 3) else (maxS l, 0) := by
  unfold maxE
  rw [if_neg]
  show ¬ far l = true
  rw [h]
  simp
theorem maxE_far {l : List Nat} (h : far l = true) : maxE l = ([], 7) := by
  unfold maxE
  rw [if_pos]
  exact h
theorem vals_skip {a b c : World} {A : Option Addr} {l : List Value} {g : Nat} (h : Vals a A l) (hu : Up a b) (hg : b.grownBy c (some g)) (hag : a.heap.size ≤ g) : Vals c A l := by
  rcases h with rfl | ⟨ad, rfl, hb, hc⟩
  · exact Or.inl rfl
  · have hs := hu.size
    have hs2 := hg.size
    refine Or.inr ⟨ad, rfl, by omega, fun j x hx => ?_⟩
    rw [← hc j x hx]
    unfold World.cell?
    rw [addBlock, hg.block ad.block (by omega) (fun e => by cases e; omega), hu.block ad.block hb]
/-- What the rounds keep: the sets that were kept, in a box. -/
def KeptAt (W1 : World) (g : Nat) (F : List Nat) (pre : List Nat) (W : World) : Prop := (∃ (v : Value) (q : Nat) (ls : List Nat), Boxed W g 22 v ∧ W.ownsRow W1.heap.size 28 1 v q (us ls) ∧ q ≤ pre.length ∧ maxK [] F = maxK ls (F.drop pre.length) ∧ Small16 ls) ∧ W1.grownBy W (some g)
theorem kept_own {W1 : World} {g : Nat} {F : List Nat} : OwnFrom W1.heap.size (KeptAt W1 g F) := by
  rintro pre A B row ⟨⟨v, q, ls, hv, hrow, h1, h2, h3⟩, hgr⟩ hg hr
  exact ⟨⟨v, q, ls, box_kept hv hg (fun r e => (hr r e).2), row_kept hrow hg (fun r e => (hr r e).2), h1, h2, h3⟩, hold_step hgr hg (fun r e => .inr (hr r e).1)⟩
set_option maxRecDepth 100000 in
set_option maxHeartbeats 4000000 in
theorem maximal_any (A : Option Addr) (n c : Nat) (l : List Nat) (w : World) (hA0 : Vals w A (us l)) (Hn : Hid (n = l.length)) (HS : Hid (Small16 l)) (hn : n ≤ 400000) :
    Calls Tryd.prog 16 #[.slice A n c] w (RetP w (maxE l)) := by
  have hdis := distinct_any A n c l w hA0 Hn HS (by omega)
  clear hA0
  obtain ⟨P, HP⟩ : ∃ P : List Nat × Int, Hid (P = maxE l) := ⟨_, rfl⟩
  rw [← HP.out]
  obtain ⟨i0, hi, hz0, hz1, hz2⟩ := info_parts Tryd.info28
  refine (callsIn_wide (n := 0)).1 (callsIn_of_wp_marks Tryd.func16 rfl trivial (wpIn_wide.2 ?_) rfl)
  simp only [Tryd.ntmps16, List.size_toArray, List.length_cons, List.length_nil, Nat.reduceAdd, Nat.reduceSub, Array.replicate_succ, Array.replicate_zero, List.push_toArray, List.append_toArray, List.nil_append, List.cons_append]
  cases hfar : far l with
  | true =>
    have HP2 : Hid (P = ([], 7)) := by show P = _; rw [HP.out, maxE_far hfar]
    have e : disE l = ([], 7) := by unfold disE; rw [if_pos hfar]
    rw [e] at hdis
    unfold RetP at hdis
    dsimp only at hdis
    clear hfar e
    go_wp2_with fail
    refine hdis.mono ?_
    rintro e w1 ⟨v, rfl, _, hu1⟩
    go_wp2
    exact ⟨_, results_tmp2 rfl _ _ _, .slice none 0 0, by rw [HP2.out]; rfl, by rw [HP2.out]; exact World.ownsRow_nil _ _ _ _, hu1⟩
  | false =>
    have HP2 : Hid (P = if 400 < (maxS l).length then ([], 3) else (maxS l, 0)) := by show P = _; rw [HP.out, maxE_ok hfar]
    have e : disE l = (srt l, 0) := by unfold disE; rw [if_neg (by rw [hfar]; simp)]
    rw [e] at hdis
    unfold RetP at hdis
    dsimp only at hdis
    clear hfar e
    obtain ⟨s, Hs⟩ : ∃ s, Hid (s = srt l) := ⟨_, rfl⟩
    rw [← Hs.out] at hdis
    have HX16 : Hid (Small16 s) := by intro x hx; rw [Hs.out] at hx; exact HS.out x ((mem_srt l x).1 hx)
    have HM : Hid ((maxK [] s.reverse).reverse = maxS l) := by show _ = _; rw [Hs.out]; exact maxK_all HS.out
    obtain ⟨m, Hm⟩ : ∃ m, Hid (m = s.length) := ⟨_, rfl⟩
    have hm : m ≤ 400000 := by
      have h1 := srt_len l
      rw [← Hs.out, ← Hm.out, ← Hn.out] at h1
      omega
    rw [← Hm.out] at hdis
    go_wp2_with fail
    refine hdis.mono ?_
    rintro e w1 ⟨v, rfl, hown0, hu1⟩
    obtain ⟨A4, c4, rfl, hc4, hV4, _, _⟩ := own_vals hown0
    have HV := hide hV4
    clear hown0 hV4 hdis
    go_wp2_with fail
    refine (backward_any A4 m c4 _).mono ?_
    rintro e w2 ⟨rfl, hw2⟩
    have e1 : (w1.alloc (.cells #[.slice none 0 0] 22)).heap.size = w1.heap.size + 1 := by simp
    have hs2 : w2.heap.size = w1.heap.size + 2 := by rw [hw2]; simp
    have bg : Boxed w2 w1.heap.size 22 (.slice none 0 0) := by rw [hw2]; exact (Boxed.new w1 _ _).alloc _
    have bx : Boxed w2 (w1.heap.size + 1) 22 (.slice A4 m c4) := by
      rw [hw2]
      have := Boxed.new (w1.alloc (.cells #[.slice none 0 0] 22)) 22 (.slice A4 m c4)
      rwa [World.size_alloc] at this
    have hu2 : Up w1 w2 := by rw [hw2]; exact ((Up.refl w1).alloc _).alloc _
    rw [e1]
    clear e1 hw2
    have hsz1 := hu1.size
    have hVg : ∀ W, w2.grownBy W (some w1.heap.size) → Vals W A4 (us s) := fun W hg => vals_skip HV.out hu2 hg (Nat.le_refl _)
    obtain ⟨g, hg⟩ : ∃ g, w1.heap.size = g := ⟨_, rfl⟩
    rw [hg] at hs2 bg bx hVg hsz1 ⊢
    clear hg
    go_wp2_with fail
    refine range_all (gf := 68) (lb := #[.pointer (some ⟨g + 1, 0, none⟩)]) rfl (enters_of Tryd.func68 (by kernel_rfl) rfl) (backward_seq (g + 1) m c4 g A4 s w2 Hm (by omega)) (Below.refl _ _) (by omega) (fun x => rfl)
      (KeptAt w2 g s.reverse) ?hIX kept_own ?h0
      (fun x a' W => ∃ Bx, w2.heap.size ≤ Bx ∧ Boxed W Bx 28 (.int .u16 ((s.getD x 0 : Nat) : Int)) ∧ a' = { tmps := #[.slice A n c, undef, .slice none 0 0, .int .i64 0, .slice A4 m c4, .int .i64 0, .pointer (some ⟨g, 0, none⟩), undef, .pointer (some ⟨Bx, 0, none⟩), undef, .tuple #[.slice A4 m c4, .int .i64 0], .slice A n c, .tuple #[.slice A4 m c4, .int .i64 0], .slice A4 m c4, .int .i64 0, .int .i64 0, .bool false, undef, .slice A4 m c4, .func (.func 68) #[] #[.pointer (some ⟨g + 1, 0, none⟩)], .int .i64 (x : Int), .int .u16 ((s.getD x 0 : Nat) : Int), undef, undef, undef, undef, undef, undef, undef, undef, undef, undef, undef, undef, undef, undef, undef], defers := [] })
      ?hAx ?assign ?body ?done
    case hIX =>
      rintro pre W ⟨_, hgr⟩
      exact ⟨(hgr.block (g + 1) bx.lt (by simp)).trans bx, hVg W hgr⟩
    case h0 => exact ⟨⟨_, 0, [], bg, World.ownsRow_nil _ _ _ _, by simp, by simp, fun x hx => by simp at hx⟩, World.grownBy.refl _ _⟩
    case hAx =>
      rintro x a' u A B row ⟨Bx, h1, h2, h3⟩ hg hr
      exact ⟨Bx, h1, box_kept h2 hg (fun r e => (hr r e).2), h3⟩
    case assign =>
      intro l2 pre x W K2 hI hpre hszW hK2
      dsimp only [bkE]
      gi_wp2
      exact hK2 _ _ (Kp.of_below ((Below.refl _ W).alloc (Nat.le_refl _) _) (by omega)) (kept_own.alloc _ hI) ⟨W.heap.size, hszW, Boxed.new _ _ _, rfl⟩
    case body =>
      rintro l2 pre x a' W ⟨⟨v, q, ls, hv, hrow, hq, hK, hQ⟩, hgr⟩ ⟨Bx, hBx, hbx, rfl⟩ hpre
      obtain ⟨hF, hxm⟩ := rev_get Hm.out hpre
      obtain ⟨p, hp⟩ : ∃ p, s.getD x 0 = p := ⟨_, rfl⟩
      have hp16 : p < 65536 := by
        rw [← hp, List.getD, List.getElem?_eq_getElem (show x < s.length by rw [← Hm.out]; exact hxm)]
        exact HX16.out _ (List.getElem_mem _)
      have hpm : pre.length < m := by
        have := hpre.length_le
        simp at this
        omega
      rw [hp] at hF hbx ⊢
      have HK := hide (hK.trans (maxK_step hF))
      have HQ := hide hQ
      clear hp hF hK hQ
      have cV := hv.cell
      have cB := hbx.cell
      have hcont := contains_any v q w2.heap.size p Bx ls W hrow HQ hp16 hbx (by omega)
      obtain ⟨b, hbb⟩ : ∃ b, accBy ls p = b := ⟨_, rfl⟩
      rw [hbb] at HK hcont
      clear hbb
      gi_wp2_with fail
      refine ⟨trivial, rfl, (CallsIn.inRound l2 (callsIn_wide.2 hcont)).mono ?_⟩
      rintro e W2 ⟨rfl, mm, hW2⟩
      have hv2 : Boxed W2 g 22 v := by rw [hW2]; exact hv
      have hrow2 : W2.ownsRow w2.heap.size 28 1 v q (us ls) := by rw [hW2]; exact own_up hrow ((Up.refl W).drewN mm)
      have hgr2 : w2.grownBy W2 (some g) := by rw [hW2]; exact hold_step hgr (grownBy_drewN W mm) (fun r e => by cases e)
      have hb2 : W2.cell? ⟨Bx, 0, none⟩ = some (.int .u16 (p : Int)) := by rw [hW2]; exact cB
      have hk2 : Kp g 28 w2.heap.size W W2 := by
        rw [hW2]
        exact Kp.of_below ((Up.refl W).drewN mm) (by have := hgr.size; omega)
      have cV2 := hv2.cell
      clear hW2 hv hrow hgr hbx cV cB hcont
      cases b with
      | true =>
        gi_wp2
        exact ⟨hk2, ⟨_, q, ls, hv2, hrow2, by simp; omega, by rw [List.length_append]; exact HK.out, HQ.out⟩, hgr2⟩
      | false =>
        have hap := take_app (x := p) (n₀ := g) hgr2 hv2 hrow2 (Nat.le_refl _) (by omega)
        have hsz2 := hgr2.size
        gi_wp2_with (gi_at_builtin; refine wpListIn_append_own _ rfl _ _ 22 rfl w2.heap.size 28 i0 (.int .u16 0) 1 2 Tryd.underlying22 hi hz0 hz1 hz2 rfl (by decide) _ _ _ rfl (hrow2.alloc _) ⟨W2.heap.size, 0, none⟩ 1 1 (us [p]) rfl rfl (cell_one_new _ _ _) (by simp [us, Value.oneCell', sv]) (by simp [maxLen]; omega) (by omega) (by simp; omega) ?_; intro v' w9 hown' hgrow _; obtain ⟨g', cap', rfl⟩ := ownsRow_succ hown'; obtain ⟨hv1, hfin⟩ := hap _ _ hown' hgrow; have hc1 := hv1.cell; have hf1 := hv1.frozen)
        obtain ⟨e1, e2, e3, e4⟩ := hfin
        rw [← us_append] at e3
        have HQ3 : Small16 (ls ++ [p]) := by
          intro y hy
          rcases List.mem_append.1 hy with h | h
          · exact HQ.out y h
          · simp at h; rw [h]; exact hp16
        exact ⟨hk2.trans e1, ⟨_, q + 1, ls ++ [p], e2, e3, by simp; omega, by rw [List.length_append]; exact HK.out, HQ3⟩, e4⟩
    case done =>
      rintro D W hD ⟨⟨v, q, ls, hv, hrow, hq, hK, hQ⟩, hgr⟩ hKD
      have hqm : q ≤ m := by simpa using hq
      have HK : Hid (maxK [] s.reverse = ls) := by
        show _ = _
        rw [hK, List.drop_eq_nil_of_le (by simp; rw [Hm.out]; exact Nat.le_refl _)]
        rfl
      have HLS : Hid (ls.reverse = maxS l) := by show _ = _; rw [← HM.out, HK.out]
      have HQ := hide hQ
      have hlen := own_len hrow
      have HP3 : Hid (P = if 400 < q then ([], 3) else (ls.reverse, 0)) := by show P = _; rw [HP2.out, ← HLS.out, List.length_reverse, hlen]
      have cV := hv.cell
      have hrev := reverse_any v q w2.heap.size ls W hrow HQ (by omega)
      clear hK hQ
      go_wp2_with fail
      refine hrev.mono ?_
      rintro e W2 ⟨rfl, hrow2, hg2⟩
      have hv2 : Boxed W2 g 22 v := hv.kept hg2 (hv.not_row (by decide) hrow)
      have hKD2 : W2.heap[D]? = some (.deferred (some [])) := by
        refine (hg2.block D (Array.getElem?_eq_some_iff.1 hKD).1 (fun e => ?_)).trans hKD
        rcases hrow.2 with ⟨rfl, _⟩ | ⟨g0, cap, cur, rfl, _, hgb, _⟩
        · simp [Value.ownBlock] at e
        · obtain rfl : D = g0 := by simpa [Value.ownBlock] using e
          rw [hKD] at hgb
          cases hgb
      have hup2 : Up w W2 := ((hu1.trans hu2).grown hgr (fun k e => by cases e; omega)).grown hg2 (fun k e => by have := (hrow.lt k e).1; omega)
      have cV2 := hv2.cell
      have hlim := limited_any v q w.heap.size ls.reverse W2 (own_mono hrow2 (by omega)) (by omega)
      rw [← HP3.out] at hlim
      clear hv hrow hgr hKD cV hrev hrow2 hg2
      go_wp2_with fail
      refine hlim.mono ?_
      rintro e W3 ⟨v3, rfl, hrow3, rfl⟩
      have HR3 := hide hrow3
      clear hrow3 hlim
      go_wp2
      refine ⟨by simp, .inl ⟨_, _, rfl, run_takeDeferred hKD2, ?_⟩⟩
      exact ⟨_, results_tmp2 rfl _ _ _, v3, rfl, ownsRow_putObj HR3.out _ hKD2 rfl, hup2.grown (grownBy_putObj' W3 D _) (fun k e => by cases e; omega)⟩
end Go.Proofs.YtfdlmgjjpcdkpaaDoor
