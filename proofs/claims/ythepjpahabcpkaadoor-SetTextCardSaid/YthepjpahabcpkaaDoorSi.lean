/- Walks inside a fence: slices.Collect of a sequence of sets, and of one of integers. -/
import Derived.Test.YthepjpahabcpkaaDoorSh
import Derived.Maps.AppendAt
namespace Go.Proofs.YthepjpahabcpkaaDoor
open Go.RowKit Go.Shelf
attribute [local go_sem] Oper.semAt_some

def inE (x : Int) : Value := .int .i64 x
theorem Up.trans_below {w a b : World} (h : Up w a) (k : Below w.heap.size a b) : Up w b := Below.trans h k
set_option maxRecDepth 100000 in
set_option maxHeartbeats 2000000 in
theorem append_sets (gf : Nat) (lb : Array Value) (eg : ∀ args w, (callFunc gf args).run Tryd.prog w = .ok (.enter gf args) w) (xs : List Nat) (w : World) (hlen : xs.length ≤ 1000000)
    (hseq : SeqO Tryd.prog gf lb svE w.heap.size 25 xs w) :
    CallsIn Fence.wide 0 Tryd.prog 51 #[.slice none 0 0, .func (.func gf) #[] lb] w fun e w' => ∃ v, e = .returned v ∧ w'.ownsRow w.heap.size 25 1 v xs.length (us xs) ∧ Up w w' := by
  obtain ⟨i0, hi, hz0, hz1, hz2⟩ := info_parts Tryd.info25
  refine callsIn_of_wp_marks Tryd.func51 rfl trivial ?_ rfl
  simp only [Tryd.ntmps51, List.size_toArray, List.length_cons, List.length_nil, Nat.reduceAdd, Nat.reduceSub, Array.replicate_succ, Array.replicate_zero, List.push_toArray, List.append_toArray, List.nil_append, List.cons_append]
  gi_wp2_with fail
  refine range_walk (gf := gf) (lb := lb) rfl eg hseq ((Below.refl _ w).alloc (Nat.le_refl _) _) (by simp) rfl
    (fun pre W => (∃ v, Boxed W w.heap.size 44 v ∧ W.ownsRow w.heap.size 25 1 v pre.length (us pre)) ∧ Up w W)
    (fun _ _ _ => False) ?hI ?hIx ?h0
    (fun x => { tmps := #[.slice none 0 0, .func (.func gf) #[] lb, .pointer (some ⟨w.heap.size, 0, none⟩), undef, .slice none 0 0, svE x, .func (.func gf) #[] lb, svE x, undef, undef, undef, undef, undef], defers := [] })
    ?assign ?body ?done ?stop
  case hI =>
    rintro pre A B row ⟨⟨v, hv, hrow⟩, hup⟩ hg hr
    have nr : ∀ {k : Nat} {cs : Array Value} {t : TypeId} {fr : Nat × Nat}, A.heap[k]? = some (.cells cs t fr) → some k ≠ row := by
      intro k cs t fr hk e
      obtain ⟨_, o, ho, hc⟩ := hr k e.symm
      rw [hk] at ho
      cases ho
      cases hc
    refine ⟨⟨v, hv.kept hg (nr hv), hrow.kept hg ?_⟩, hup.grown hg (fun k e => by have := (hr k e).1; simp at this; omega)⟩
    rcases hrow.2 with ⟨rfl, _⟩ | ⟨g, cap, cur, rfl, _, hgb, _⟩
    · exact .inl rfl
    · exact .inr (nr hgb)
  case hIx => exact fun _ _ _ _ _ h _ _ => h
  case h0 => exact ⟨⟨_, Boxed.new _ _ _, World.ownsRow_nil _ _ _ _⟩, (Up.refl w).alloc _⟩
  case assign =>
    intro l2 x W2 K2 hK2
    dsimp only [svE]
    gi_wp2
    exact hK2
  case body =>
    rintro l2 pre x W ⟨⟨v, hv, hrow⟩, hup⟩ hpre
    have hc := hv.cell
    have hpl : pre.length + 1 ≤ xs.length := by have := hpre.length_le; simpa using this
    have hB := hup.size
    obtain ⟨n, hn⟩ : ∃ n, pre.length = n := ⟨_, rfl⟩
    rw [hn] at hrow hpl
    have hvl := hv.lt
    dsimp only [svE]
    gi_wp2_with (gi_at_builtin; refine wpListIn_append_own _ rfl _ _ 44 rfl w.heap.size 25 i0 (.int .u16 0) 1 2 Tryd.underlying44 hi hz0 hz1 hz2 rfl (by decide) _ _ _ rfl (hrow.alloc _) ⟨W.heap.size, 0, none⟩ 1 1 (us [x]) rfl rfl (cell_one_new _ _ _) (by simp [us, Value.oneCell', sv]) (by simp [maxLen]; omega) (by omega) (by simp; omega) ?_; intro v' w1 hown' hgrow _; obtain ⟨g', cap', rfl⟩ := ownsRow_succ hown'; obtain ⟨hv1, hv2, hr2, hk2, hb2⟩ := hv.appended (by decide) hrow hB (Nat.le_refl _) hown' hgrow; have hc1 := hv1.cell; have hf1 := hv1.frozen)
    refine ⟨?_, ⟨_, hv2, by rw [List.length_append, hn]; simpa [us] using hr2⟩, hup.trans_below hb2⟩
    have k1 : Kp w.heap.size 25 (w.alloc (.cells #[.slice none 0 0] 44)).heap.size W (W.alloc (.cells #[svE x] 25)) := Kp.of_below ((Below.refl _ W).alloc (Nat.le_refl _) _) hB
    have k2 : Kp w.heap.size 25 (w.alloc (.cells #[.slice none 0 0] 44)).heap.size (W.alloc (.cells #[svE x] 25)) w1 := by
      replace hgrow : (W.alloc (.cells #[svE x] 25)).grownBy w1 v.ownBlock := hgrow
      refine Kp.of_grown hgrow (by simp; omega) (fun k ek => ?_)
      rcases hrow.2 with ⟨rfl, _⟩ | ⟨g, cap, cur, rfl, hbg, hgb, _⟩
      · simp [Value.ownBlock] at ek
      · obtain rfl : g = k := by simpa [Value.ownBlock] using ek
        exact ⟨hbg, .inr ⟨cur, _, (Below.heap_alloc _ _ g (Array.getElem?_eq_some_iff.1 hgb).1).trans hgb⟩⟩
    exact (k1.trans k2).trans (Kp.of_grown (grownBy_setCell' _ _ _) (Nat.le_trans (Nat.le_of_lt hvl) (Nat.le_trans (by simp) hgrow.size)) (fun k ek => by cases ek; exact ⟨Nat.le_refl _, .inl (by simp)⟩))
  case done =>
    rintro D W hD ⟨⟨v, hv, hrow⟩, hup⟩ hK
    have hc := hv.cell
    gi_wp2
    refine ⟨by simp, .inl ⟨_, _, rfl, run_takeDeferred hK, ?_⟩⟩
    exact ⟨_, results_tmp rfl _ _ _, v, rfl, ownsRow_putObj hrow _ hK rfl, hup.grown (grownBy_putObj' W D _) (fun k e => by cases e; simp at hD; omega)⟩
  case stop =>
    rintro D c pre W _ _ h _
    exact h.elim
set_option maxRecDepth 100000 in
set_option maxHeartbeats 2000000 in
theorem collect_sets (gf : Nat) (lb : Array Value) (eg : ∀ args w, (callFunc gf args).run Tryd.prog w = .ok (.enter gf args) w) (xs : List Nat) (w : World) (hlen : xs.length ≤ 1000000)
    (hseq : SeqO Tryd.prog gf lb svE w.heap.size 25 xs w) :
    Calls Tryd.prog 28 #[.func (.func gf) #[] lb] w fun e w' => ∃ v, e = .returned v ∧ w'.ownsRow w.heap.size 25 1 v xs.length (us xs) ∧ Up w w' := by
  refine (callsIn_wide (n := 0)).1 ?_
  refine callsIn_of_wp Tryd.func28 rfl trivial ?_ rfl
  simp only [Tryd.ntmps28, List.size_toArray, List.length_cons, List.length_nil, Nat.reduceAdd, Nat.reduceSub, Array.replicate_succ, Array.replicate_zero, List.push_toArray, List.append_toArray, List.nil_append, List.cons_append]
  gi_wp2_with fail
  refine ⟨trivial, rfl, (append_sets gf lb eg xs w hlen hseq).mono ?_⟩
  rintro e w' ⟨v, rfl, hrow, hup⟩
  gi_wp2
  go_ret
  exact ⟨v, rfl, hrow, hup⟩
set_option maxRecDepth 100000 in
set_option maxHeartbeats 2000000 in
theorem append_ints (gf : Nat) (lb : Array Value) (eg : ∀ args w, (callFunc gf args).run Tryd.prog w = .ok (.enter gf args) w) (xs : List Int) (w : World) (hlen : xs.length ≤ 1000000)
    (hseq : SeqO Tryd.prog gf lb inE w.heap.size 3 xs w) :
    CallsIn Fence.wide 0 Tryd.prog 61 #[.slice none 0 0, .func (.func gf) #[] lb] w fun e w' => ∃ v, e = .returned v ∧ w'.ownsRow w.heap.size 3 1 v xs.length (is xs) ∧ Up w w' := by
  obtain ⟨i0, hi, hz0, hz1, hz2⟩ := info_parts Tryd.info3
  refine callsIn_of_wp_marks Tryd.func61 rfl trivial ?_ rfl
  simp only [Tryd.ntmps61, List.size_toArray, List.length_cons, List.length_nil, Nat.reduceAdd, Nat.reduceSub, Array.replicate_succ, Array.replicate_zero, List.push_toArray, List.append_toArray, List.nil_append, List.cons_append]
  gi_wp2_with fail
  refine range_walk (gf := gf) (lb := lb) rfl eg hseq ((Below.refl _ w).alloc (Nat.le_refl _) _) (by simp) rfl
    (fun pre W => (∃ v, Boxed W w.heap.size 22 v ∧ W.ownsRow w.heap.size 3 1 v pre.length (is pre)) ∧ Up w W)
    (fun _ _ _ => False) ?hI ?hIx ?h0
    (fun x => { tmps := #[.slice none 0 0, .func (.func gf) #[] lb, .pointer (some ⟨w.heap.size, 0, none⟩), undef, .slice none 0 0, inE x, .func (.func gf) #[] lb, inE x, undef, undef, undef, undef, undef], defers := [] })
    ?assign ?body ?done ?stop
  case hI =>
    rintro pre A B row ⟨⟨v, hv, hrow⟩, hup⟩ hg hr
    have nr : ∀ {k : Nat} {cs : Array Value} {t : TypeId} {fr : Nat × Nat}, A.heap[k]? = some (.cells cs t fr) → some k ≠ row := by
      intro k cs t fr hk e
      obtain ⟨_, o, ho, hc⟩ := hr k e.symm
      rw [hk] at ho
      cases ho
      cases hc
    refine ⟨⟨v, hv.kept hg (nr hv), hrow.kept hg ?_⟩, hup.grown hg (fun k e => by have := (hr k e).1; simp at this; omega)⟩
    rcases hrow.2 with ⟨rfl, _⟩ | ⟨g, cap, cur, rfl, _, hgb, _⟩
    · exact .inl rfl
    · exact .inr (nr hgb)
  case hIx => exact fun _ _ _ _ _ h _ _ => h
  case h0 => exact ⟨⟨_, Boxed.new _ _ _, World.ownsRow_nil _ _ _ _⟩, (Up.refl w).alloc _⟩
  case assign =>
    intro l2 x W2 K2 hK2
    dsimp only [inE]
    gi_wp2
    exact hK2
  case body =>
    rintro l2 pre x W ⟨⟨v, hv, hrow⟩, hup⟩ hpre
    have hc := hv.cell
    have hpl : pre.length + 1 ≤ xs.length := by have := hpre.length_le; simpa using this
    have hB := hup.size
    obtain ⟨n, hn⟩ : ∃ n, pre.length = n := ⟨_, rfl⟩
    rw [hn] at hrow hpl
    have hvl := hv.lt
    dsimp only [inE]
    gi_wp2_with (gi_at_builtin; refine wpListIn_append_own _ rfl _ _ 22 rfl w.heap.size 3 i0 (.int .i64 0) 1 8 Tryd.underlying22 hi hz0 hz1 hz2 rfl (by decide) _ _ _ rfl (hrow.alloc _) ⟨W.heap.size, 0, none⟩ 1 1 (is [x]) rfl rfl (cell_one_new _ _ _) (by simp [is, Value.oneCell']) (by simp [maxLen]; omega) (by omega) (by simp; omega) ?_; intro v' w1 hown' hgrow _; obtain ⟨g', cap', rfl⟩ := ownsRow_succ hown'; obtain ⟨hv1, hv2, hr2, hk2, hb2⟩ := hv.appended (by decide) hrow hB (Nat.le_refl _) hown' hgrow; have hc1 := hv1.cell; have hf1 := hv1.frozen)
    refine ⟨?_, ⟨_, hv2, by rw [List.length_append, hn]; simpa [is] using hr2⟩, hup.trans_below hb2⟩
    have k1 : Kp w.heap.size 3 (w.alloc (.cells #[.slice none 0 0] 22)).heap.size W (W.alloc (.cells #[inE x] 3)) := Kp.of_below ((Below.refl _ W).alloc (Nat.le_refl _) _) hB
    have k2 : Kp w.heap.size 3 (w.alloc (.cells #[.slice none 0 0] 22)).heap.size (W.alloc (.cells #[inE x] 3)) w1 := by
      replace hgrow : (W.alloc (.cells #[inE x] 3)).grownBy w1 v.ownBlock := hgrow
      refine Kp.of_grown hgrow (by simp; omega) (fun k ek => ?_)
      rcases hrow.2 with ⟨rfl, _⟩ | ⟨g, cap, cur, rfl, hbg, hgb, _⟩
      · simp [Value.ownBlock] at ek
      · obtain rfl : g = k := by simpa [Value.ownBlock] using ek
        exact ⟨hbg, .inr ⟨cur, _, (Below.heap_alloc _ _ g (Array.getElem?_eq_some_iff.1 hgb).1).trans hgb⟩⟩
    exact (k1.trans k2).trans (Kp.of_grown (grownBy_setCell' _ _ _) (Nat.le_trans (Nat.le_of_lt hvl) (Nat.le_trans (by simp) hgrow.size)) (fun k ek => by cases ek; exact ⟨Nat.le_refl _, .inl (by simp)⟩))
  case done =>
    rintro D W hD ⟨⟨v, hv, hrow⟩, hup⟩ hK
    have hc := hv.cell
    gi_wp2
    refine ⟨by simp, .inl ⟨_, _, rfl, run_takeDeferred hK, ?_⟩⟩
    exact ⟨_, results_tmp rfl _ _ _, v, rfl, ownsRow_putObj hrow _ hK rfl, hup.grown (grownBy_putObj' W D _) (fun k e => by cases e; simp at hD; omega)⟩
  case stop =>
    rintro D c pre W _ _ h _
    exact h.elim
set_option maxRecDepth 100000 in
set_option maxHeartbeats 2000000 in
theorem collect_ints (gf : Nat) (lb : Array Value) (eg : ∀ args w, (callFunc gf args).run Tryd.prog w = .ok (.enter gf args) w) (xs : List Int) (w : World) (hlen : xs.length ≤ 1000000)
    (hseq : SeqO Tryd.prog gf lb inE w.heap.size 3 xs w) :
    Calls Tryd.prog 43 #[.func (.func gf) #[] lb] w fun e w' => ∃ v, e = .returned v ∧ w'.ownsRow w.heap.size 3 1 v xs.length (is xs) ∧ Up w w' := by
  refine (callsIn_wide (n := 0)).1 ?_
  refine callsIn_of_wp Tryd.func43 rfl trivial ?_ rfl
  simp only [Tryd.ntmps43, List.size_toArray, List.length_cons, List.length_nil, Nat.reduceAdd, Nat.reduceSub, Array.replicate_succ, Array.replicate_zero, List.push_toArray, List.append_toArray, List.nil_append, List.cons_append]
  gi_wp2_with fail
  refine ⟨trivial, rfl, (append_ints gf lb eg xs w hlen hseq).mono ?_⟩
  rintro e w' ⟨v, rfl, hrow, hup⟩
  gi_wp2
  go_ret
  exact ⟨v, rfl, hrow, hup⟩
end Go.Proofs.YthepjpahabcpkaaDoor
