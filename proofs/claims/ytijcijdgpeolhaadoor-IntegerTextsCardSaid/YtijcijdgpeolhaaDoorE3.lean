/- The program's short. -/
import Derived.Test.YtijcijdgpeolhaaDoorRound
import Derived.Test.YtijcijdgpeolhaaDoorD4
import Derived.RangeFuncNested
import Derived.RangeFuncBound
import Derived.RangeFuncCalls
import Derived.RangeFuncLeaves
import Derived.Shelf.Abstract
import Derived.Shelf.RegionOpen
import Derived.OwnWalkIn
import Derived.TacticsInMore
import Derived.LoopNIn
import Derived.LoopIn
import Derived.Deep.RegionHeld3
import Derived.Deep.RegionWith
namespace Go.Proofs.YtijcijdgpeolhaaDoor
open Go.RowKit Go.Shelf
attribute [local go_sem] Oper.semAt_some

theorem Own.far {w : World} {base n g : Nat} {v : Value} {l : List Nat} (h : Own w base v n l) (hne : v.ownBlock ≠ some g) (u : Value) : Own (w.setCell ⟨g, 0, none⟩ u) base v n l :=
  World.ownsRow.kept h (grownBy_setCell' w g u) (.inr hne)
theorem Own.grown {w w' : World} {base n : Nat} {v : Value} {l : List Nat} {row : Option Nat} (h : Own w base v n l) (hg : w.grownBy w' row) (hne : v.ownBlock ≠ row) : Own w' base v n l :=
  World.ownsRow.kept h hg (.inr hne)
theorem Lim.grown_ {w w' : World} {A : Option Addr} {l : List Nat} {row : Option Nat} (h : Lim w A l) (hg : w.grownBy w' row) (hne : ∀ ad, A = some ad → some ad.block ≠ row) : Lim w' A l := by
  rcases h with h | ⟨ad, e, hb, hc⟩
  · exact .inl h
  · exact .inr ⟨ad, e, Nat.lt_of_lt_of_le hb hg.size, fun j x hj => (World.cell?_of_block (w := w) (a := ad.add j) (hg.block _ (by rw [addBlock]; exact hb) (by rw [addBlock]; exact hne ad e))).trans (hc j x hj)⟩
theorem short_q {r x d : Nat} (hr : r < d) (hx : x < 1000000000) : (r * 1000000000 + x) / d < 1000000000 ∧ (r * 1000000000 + x) % d < d := by
  refine ⟨Nat.div_lt_of_lt_mul ?_, Nat.mod_lt _ (by omega)⟩
  have h1 : r * 1000000000 + x < (r + 1) * 1000000000 := by rw [Nat.add_mul, Nat.one_mul]; exact Nat.add_lt_add_left hx _
  exact Nat.lt_of_lt_of_le h1 (Nat.mul_le_mul_right _ hr)

theorem short_lin {x P r D M t : Nat} (h : D + M = t) (ht : t = r * 1000000000 + x) : x + 1000000000 * (P + r) = D + 1000000000 * P + M := by omega
theorem short_step {l L : List Nat} {n k d r t i x : Nat} (hl : n = l.length) (hL : L.length = n) (hk : k < n) (hi : i = n - 1 - k) (hx : x = l.getD (n - 1 - k) 0) (ht : t = r * 1000000000 + x) (hm : val (l.drop (n - k)) = val (L.drop (n - k)) * d + r) :
    val (l.drop (n - (k + 1))) = val ((L.set i (t / d)).drop (n - (k + 1))) * d + t % d := by
  rw [drop_back hl hk, ← hx, hm, hi, show n - (k + 1) = n - 1 - k by omega, val_drop_set L (by omega), show n - 1 - k + 1 = n - k by omega, Nat.add_mul, Nat.mul_assoc, Nat.mul_comm (t / d) d]
  exact short_lin (Nat.div_add_mod t d) ht

set_option maxRecDepth 100000 in
set_option linter.unusedSimpArgs false in
set_option maxHeartbeats 4000000 in
theorem short_any (A : Option Addr) (c n a d : Nat) (w : World) (hl : Lim w A (lim a)) (Hn : Hid (n = (lim a).length)) (hn : n ≤ 10000) (hd0 : 0 < d) (hd : d < 1000000000) :
    Calls Tryd.prog 58 #[.slice A n c, .int .u32 d] w (RetLim2 w (a / d) (a % d)) := by
  refine (callsIn_wide (n := 5)).1 ?_
  refine callsIn_of_wp_marks Tryd.func58 rfl trivial ?_ rfl
  simp only [Tryd.ntmps58, List.size_toArray, List.length_cons, List.length_nil, Nat.reduceAdd, Nat.reduceSub, Array.replicate_succ, Array.replicate_zero, List.push_toArray, List.append_toArray, List.nil_append, List.cons_append]
  obtain ⟨w1, hw1⟩ : ∃ w1, w1 = (w.alloc (.cells #[.int .u32 (d : Int)] 41)).alloc (.cells #[.slice none 0 0] 22) := ⟨_, rfl⟩
  have bL : Bk w1 w.heap.size 41 #[.int .u32 (d : Int)] := by rw [hw1]; exact (Bk.new w _ _).alloc _
  have bQ : Bk w1 (w.heap.size + 1) 22 #[.slice none 0 0] := by
    have := Bk.new (w.alloc (.cells #[.int .u32 (d : Int)] 41)) 22 #[.slice none 0 0]
    rw [hw1]; simpa using this
  have hup1 : Up w w1 := by rw [hw1]; exact ((Up.refl w).alloc _).alloc _
  have Hsz1 : Hid (w1.heap.size = w.heap.size + 1 + 1) := by show _ = _; rw [hw1]; simp
  have Hw1 := hide hw1
  clear hw1
  refine wpIn_wide.2 ?_
  go_wp2_with (at_make; rw [← Hw1.out]; refine wp_mk rfl _ _ rfl w1.heap.size n _ _ _ _ rfl rfl rfl rfl (by omega) (Nat.le_refl _) ?_; intro w0 hown0 hup0 hlt0; rw [Hsz1.out] at hown0; rw [Hsz1.out]; have bL0 := bL.up hup0; have bQ0 := bQ.up hup0; have hsz0 : w.heap.size + 1 + 1 < w0.heap.size := (by have := Hsz1.out; omega); have f1 := bQ0.cell (i := 0) rfl; have f2 := bQ0.frozen 0; have f3 := bL0.cell (i := 0) rfl)
  obtain ⟨w2, hw2⟩ : ∃ w2, w2 = (w0.setCell ⟨w.heap.size + 1, 0, none⟩ (.slice (some ⟨w.heap.size + 1 + 1, 0, none⟩) n n)).alloc (.cells #[.int .u64 0] 58) := ⟨_, rfl⟩
  have hs2 : w2.heap.size = w0.heap.size + 1 := by rw [hw2]; simp
  have bL2 : Bk w2 w.heap.size 41 #[.int .u32 (d : Int)] := by rw [hw2]; exact (bL0.far (p := ⟨w.heap.size + 1, 0, none⟩) (by simp) _).alloc _
  have bQ2 : Bk w2 (w.heap.size + 1) 22 #[.slice (some ⟨w.heap.size + 1 + 1, 0, none⟩) n n] := by rw [hw2]; exact (bQ0.setCell 0 _).alloc _
  have bC2 : Bk w2 w0.heap.size 58 #[.int .u64 0] := by
    have := Bk.new (w0.setCell ⟨w.heap.size + 1, 0, none⟩ (.slice (some ⟨w.heap.size + 1 + 1, 0, none⟩) n n)) 58 #[.int .u64 0]
    rw [hw2]; simpa using this
  have own2 : Own w2 (w.heap.size + 1 + 1) (.slice (some ⟨w.heap.size + 1 + 1, 0, none⟩) n n) n (List.replicate n 0) := by
    rw [hw2]; exact (hown0.far (g := w.heap.size + 1) (by simp [Value.ownBlock]) _).up ((Up.refl _).alloc _)
  have hup2 : Up w w2 := by rw [hw2]; exact ((hup1.trans hup0).setCell (p := ⟨w.heap.size + 1, 0, none⟩) (by simp) _).alloc _
  rw [← hw2]
  clear hw2 bL bQ hup1 hup0 hlt0 hown0 bL0 bQ0 f1 f2 f3 Hw1 Hsz1
  have hBA := (callsIn_wide (n := 4)).1 (back_in Fence.wide 4 trivial rfl A n c w2)
  refine hBA.mono ?_
  rintro e w' ⟨rfl, hw'⟩
  obtain ⟨w3, hw3⟩ : ∃ w3, w3 = w2.alloc (.cells #[.slice A n c] 22) := ⟨_, rfl⟩
  have hs3 : w3.heap.size = w0.heap.size + 2 := by rw [hw3]; simp [hs2]
  have bL3 := bL2.alloc (.cells #[.slice A n c] 22)
  have bQ3 := bQ2.alloc (.cells #[.slice A n c] 22)
  have bC3 := bC2.alloc (.cells #[.slice A n c] 22)
  have bB3 : Bk w3 (w0.heap.size + 1) 22 #[.slice A n c] := by rw [hw3, ← hs2]; exact Bk.new _ _ _
  have own3 := own2.up ((Up.refl w2).alloc (.cells #[.slice A n c] 22))
  have hup3 := hup2.alloc (.cells #[.slice A n c] 22)
  rw [← hw3] at bL3 bQ3 bC3 own3 hup3
  have hww : w' = w3 := hw'.trans hw3.symm
  subst hww
  rw [hs2]
  have HS3 := hide hs3
  have HS2 := hide hs2
  clear hw' hw3 hBA hs2 hs3 bL2 bQ2 bC2 own2 hup2
  go_wp2
  refine wpIn_wide (n := 5) |>.1 ?_
  have hA : 0 < n → ∀ ad, A = some ad → ad.block < w.heap.size := fun h ad e => by
    obtain ⟨ad', e', hb, _⟩ := hl.at_ (k := 0) (by rw [← Hn.out]; exact h)
    rw [e] at e'
    cases e'
    exact hb
  refine wpIn_rangeFunc_ownG rfl (by omega) (gf := 45) (lb := #[.pointer (some ⟨w0.heap.size + 1, 0, none⟩)]) rfl trivial (enters_of Tryd.func45 (by kernel_rfl) rfl)
    (back_stops Fence.wide (5 - 1) trivial rfl (by omega) (w0.heap.size + 1) w.heap.size 1000000000 A c n (lim a) (dig_getD (dig_lim a)) (by omega) Hn w' bB3.lt (bB3.cell (i := 0) rfl) (hl.up hup3) hA)
    (fun h k => ⟨h.1.trans k.1, fun v hv => k.2 v (h.2 v hv)⟩)
    (fun W l o o' hle h h1 h2 => ⟨belowK_b (w := w') hup3.size W l o o' hle h h1 h2, fun v hv => (World.cell?_of_block (w := W) ((grownBy_putObj' W l o').block _ (World.block_lt_of_cell? W _ hv) (fun e => by have h3 : w0.heap.size + 1 = l := Option.some.inj e; have := HS3.out; omega))).trans hv⟩)
    (Below.refl _ _) (fun _ => rfl)
    (fun pre W => ∃ (r : Nat) (L : List Nat), Bk W w0.heap.size 58 #[.int .u64 (r : Int)] ∧ Bk W w.heap.size 41 #[.int .u32 (d : Int)] ∧ Bk W (w.heap.size + 1) 22 #[.slice (some ⟨w.heap.size + 1 + 1, 0, none⟩) n n] ∧ Own W (w.heap.size + 1 + 1) (.slice (some ⟨w.heap.size + 1 + 1, 0, none⟩) n n) n L ∧ Dig L ∧ r < d ∧
      (pre.map (fun y => y.1) = raws (lim a) n pre.length → pre.length ≤ n → val ((lim a).drop (n - pre.length)) = val (L.drop (n - pre.length)) * d + r) ∧ Up w W)
    (fun _ _ _ => False)
    (fun s X Y row hs hg hr => by
      obtain ⟨r, L, h1, h2, h3, h4, h5, h6, h7, h8⟩ := hs
      have hne : ∀ g, g < w'.heap.size → some g ≠ row := fun g hgl e => by have := (hr g e.symm).1; omega
      have hz := HS3.out
      exact ⟨r, L, h1.grown hg (hne _ (by omega)), h2.grown hg (hne _ (by omega)), h3.grown hg (hne _ (by omega)), h4.grown hg (hne (w.heap.size + 1 + 1) (by omega)), h5, h6, h7, h8.grown hg (fun k e => by have := (hr k e).1; omega)⟩)
    (fun _ _ _ _ _ hs _ _ => hs)
    ⟨0, _, bC3, bL3, bQ3, own3, dig_replicate n, hd0, fun _ _ => by rw [List.drop_eq_nil_of_le (by rw [← Hn.out]; simp), List.drop_eq_nil_of_le (by simp)]; simp [val], hup3⟩
    (fun y => { tmps := #[.slice A n c, .int .u32 (d : Int), undef, .pointer (some ⟨w.heap.size, 0, none⟩), .pointer (some ⟨w.heap.size + 1, 0, none⟩), .slice none 0 0, .pointer (some ⟨w0.heap.size, 0, none⟩), .int .i64 (y.1.1 : Nat), .int .u32 (y.1.2 : Nat), undef, .slice A n c, .int .i64 (n : Int), .slice (some ⟨w.heap.size + 1 + 1, 0, none⟩) n n, .slice A n c, .func (.func 45) #[] #[.pointer (some ⟨w0.heap.size + 1, 0, none⟩)], .int .i64 (y.1.1 : Nat), .int .u32 (y.1.2 : Nat), undef, undef, undef, undef, undef, undef, undef, undef, undef, undef, undef, undef, undef, undef, undef, undef, undef, undef, undef, undef, undef], defers := [] }) ?assign ?body ?done ?stop
  case assign =>
    intro l y W K hK
    gi_wp2
    exact hK
  case body =>
    rintro l pre ⟨⟨i, x⟩, hi, hx⟩ W ⟨r, L, b1, b2, b3, own, hdL, hr, hm, hup⟩ hlen
    dsimp only at hi hx ⊢
    have HM := hide hm
    have HDL := hide hdL
    have HO := hide own
    have fL : W.cell? ⟨w.heap.size, 0, none⟩ = some (.int .u32 (d : Int)) := b2.cell (i := 0) rfl
    have fQ : W.cell? ⟨w.heap.size + 1, 0, none⟩ = some (.slice (some ⟨w.heap.size + 1 + 1, 0, none⟩) n n) := b3.cell (i := 0) rfl
    have fC : W.cell? ⟨w0.heap.size, 0, none⟩ = some (.int .u64 (r : Int)) := b1.cell (i := 0) rfl
    have fCf := b1.frozen 0
    have fO := own.cell (j := i) hi
    have fOf := own.frozen i
    have Hup := hide hup
    have HLen := hide hlen
    clear hm hdL own hup hlen HS2 bL3 bQ3 bC3 bB3 own3 hup3
    gi_wp2
    obtain ⟨t, Ht⟩ : ∃ t : Nat, (t : Int) = (r : Int) * 1000000000 + x := ⟨r * 1000000000 + x, by omega⟩
    have HT := hide Ht
    have htB : t < 1000000000000000000 := by omega
    have hqq := short_q (x := x) hr hx
    have htt : t = r * 1000000000 + x := by omega
    rw [← htt] at hqq
    have hq0 : (0 : Int) ≤ (t : Int) / (d : Int) := by rw [← Int.natCast_ediv]; exact Int.natCast_nonneg _
    have hq1 : (t : Int) / (d : Int) < 1000000000 := by rw [← Int.natCast_ediv]; have := hqq.1; omega
    have hQQ := hide hqq
    rw [← Ht]
    clear Ht htt hqq
    have hd1 : IntKind.u64.wrap (d : Int) = d := by rw [IntKind.wrap_u64]; omega
    have hd2 : ((d : Int) = 0) = False := by simp; omega
    have hq2 : IntKind.u64.wrap ((t : Int) / (d : Int)) = (t : Int) / (d : Int) := by rw [IntKind.wrap_u64]; omega
    have hq3 : IntKind.u32.wrap ((t : Int) / (d : Int)) = (t : Int) / (d : Int) := by rw [IntKind.wrap_u32]; omega
    have hq4 : IntKind.u64.wrap ((t : Int) % (d : Int)) = (t : Int) % (d : Int) := by
      rw [← Int.natCast_emod, IntKind.wrap_u64]
      have := hQQ.out.2
      omega
    have Hd1 := hide hd1
    have Hd2 := hide hd2
    have Hd3 : Hid ((d = 0) = False) := by show (d = 0) = False; simp; omega
    have Hq2 := hide hq2
    have Hq3 := hide hq3
    have Hq4 := hide hq4
    clear hd1 hd2 hq2 hq3 hq4
    refine region_inRound (by kernel_rfl) (by kernel_rfl) ?_
    simp only [List.size_toArray, List.length_cons, List.length_nil, Nat.reduceAdd, Array.replicate_succ, Array.replicate_zero]
    repeat' (first
      | (refine wpAnyIn_done ?_ ?_ _; (· decide +kernel))
      | (refine wpAnyIn_take (i := 1) (v := ?_) rfl rfl ?_ ?_ ?_ (fun _ _ _ h => h) ⟨Or.inl ⟨?_, ?_⟩, fun _ => rfl⟩ ?_; rotate_left; (· kernel_rfl); (· decide +kernel); (· decide +kernel); (· rfl); (· (intro w; go_simp; (try simp only [Hd1.out, Hd2.out, Hd3.out, Hq2.out, Hq3.out, Hq4.out, ↓reduceIte]); (try with_reducible rfl))))
      | (refine wpAnyIn_take (i := 2) (v := ?_) rfl rfl ?_ ?_ ?_ (fun _ _ _ h => h) ⟨Or.inl ⟨?_, ?_⟩, fun _ => rfl⟩ ?_; rotate_left; (· kernel_rfl); (· decide +kernel); (· decide +kernel); (· rfl); (· (intro w; go_simp; (try simp only [Hd1.out, Hd2.out, Hd3.out, Hq2.out, Hq3.out, Hq4.out, ↓reduceIte]); (try with_reducible rfl))))
      | (refine wpAnyIn_take (i := 4) (v := ?_) rfl rfl ?_ ?_ ?_ (fun _ _ _ h => h) ⟨Or.inl ⟨?_, ?_⟩, fun _ => rfl⟩ ?_; rotate_left; (· kernel_rfl); (· decide +kernel); (· decide +kernel); (· rfl); (· (intro w; go_simp; (try simp only [Hd1.out, Hd2.out, Hd3.out, Hq2.out, Hq3.out, Hq4.out, ↓reduceIte]); (try with_reducible rfl))))
      | (refine wpAnyIn_take (i := 5) (v := ?_) rfl rfl ?_ ?_ ?_ (fun _ _ _ h => h) ⟨Or.inl ⟨?_, ?_⟩, fun _ => rfl⟩ ?_; rotate_left; (· kernel_rfl); (· decide +kernel); (· decide +kernel); (· rfl); (· (intro w; go_simp; (try simp only [Hd1.out, Hd2.out, Hd3.out, Hq2.out, Hq3.out, Hq4.out, ↓reduceIte]); (try with_reducible rfl))))
      | (refine wpAnyIn_take (i := 6) (v := ?_) rfl rfl ?_ ?_ ?_ (fun _ _ _ h => h) ⟨Or.inl ⟨?_, ?_⟩, fun _ => rfl⟩ ?_; rotate_left; (· kernel_rfl); (· decide +kernel); (· decide +kernel); (· rfl); (· (intro w; go_simp; (try simp only [Hd1.out, Hd2.out, Hd3.out, Hq2.out, Hq3.out, Hq4.out, ↓reduceIte]); (try with_reducible rfl))))
      | (refine wpAnyIn_take (i := 7) (v := ?_) rfl rfl ?_ ?_ ?_ (fun _ _ _ h => h) ⟨Or.inl ⟨?_, ?_⟩, fun _ => rfl⟩ ?_; rotate_left; (· kernel_rfl); (· decide +kernel); (· decide +kernel); (· rfl); (· (intro w; go_simp; (try simp only [Hd1.out, Hd2.out, Hd3.out, Hq2.out, Hq3.out, Hq4.out, ↓reduceIte]); (try with_reducible rfl))))
      | (refine wpAnyIn_take (i := 9) (v := ?_) rfl rfl ?_ ?_ ?_ (fun _ _ _ h => h) ⟨Or.inl ⟨?_, ?_⟩, fun _ => rfl⟩ ?_; rotate_left; (· kernel_rfl); (· decide +kernel); (· decide +kernel); (· rfl); (· (intro w; go_simp; (try simp only [Hd1.out, Hd2.out, Hd3.out, Hq2.out, Hq3.out, Hq4.out, ↓reduceIte]); (try with_reducible rfl))))
      | (refine wpAnyIn_take (i := 10) (v := ?_) rfl rfl ?_ ?_ ?_ (fun _ _ _ h => h) ⟨Or.inl ⟨?_, ?_⟩, fun _ => rfl⟩ ?_; rotate_left; (· kernel_rfl); (· decide +kernel); (· decide +kernel); (· rfl); (· (intro w; go_simp; (try simp only [Hd1.out, Hd2.out, Hd3.out, Hq2.out, Hq3.out, Hq4.out, ↓reduceIte]); (try with_reducible rfl))))
      | (refine wpAnyIn_take (i := 11) (v := ?_) rfl rfl ?_ ?_ ?_ (fun _ _ _ h => h) ⟨Or.inl ⟨?_, ?_⟩, fun _ => rfl⟩ ?_; rotate_left; (· kernel_rfl); (· decide +kernel); (· decide +kernel); (· rfl); (· (intro w; go_simp; (try simp only [Hd1.out, Hd2.out, Hd3.out, Hq2.out, Hq3.out, Hq4.out, ↓reduceIte]); (try with_reducible rfl))))
      | (refine wpAnyIn_ready (rs := [0, 3, 8]) ?_ ?_ ?_; (· decide +kernel); (· simp))
      | (refine wpAnyIn_ready (rs := [0, 3]) ?_ ?_ ?_; (· decide +kernel); (· simp))
      | (refine wpAnyIn_ready (rs := [0, 8]) ?_ ?_ ?_; (· decide +kernel); (· simp))
      | (refine wpAnyIn_ready (rs := [3, 8]) ?_ ?_ ?_; (· decide +kernel); (· simp))
      | (refine wpAnyIn_ready (rs := [8, 12]) ?_ ?_ ?_; (· decide +kernel); (· simp))
      | (refine wpAnyIn_ready (rs := [0]) ?_ ?_ ?_; (· decide +kernel); (· simp))
      | (refine wpAnyIn_ready (rs := [3]) ?_ ?_ ?_; (· decide +kernel); (· simp))
      | (refine wpAnyIn_ready (rs := [8]) ?_ ?_ ?_; (· decide +kernel); (· simp))
      | (refine wpAnyIn_ready (rs := [12]) ?_ ?_ ?_; (· decide +kernel); (· simp))
      | (refine wpAnyIn_ready (rs := [13]) ?_ ?_ ?_; (· decide +kernel); (· simp))
      | exact AllReadyIn.nil
      | (refine AllReadyIn.cons rfl (fun K hK => ?_) ?_; (go_simp; (try simp only [Hd1.out, Hd2.out, Hd3.out, Hq2.out, Hq3.out, Hq4.out, ↓reduceIte]); (try go_simp); refine hK _ _ ?_; clear hK K)))
    all_goals
      have eD : (t : Int) / (d : Int) = ((t / d : Nat) : Int) := rfl
      have eM : (t : Int).tmod (d : Int) = ((t % d : Nat) : Int) := rfl
      rw [eD, eM]
      have hsz := hsz0
      refine ⟨(((KeepsOthers.setCell W _ _).trans (KeepsOthers.setCell _ _ _)).trans (KeepsOthers.drew _)).from _, ⟨((((Below.refl w.heap.size W).setCell (p := ⟨w.heap.size + 1 + 1, i, none⟩) (by show w.heap.size ≤ w.heap.size + 1 + 1; omega) _).setCell (p := ⟨w0.heap.size, 0, none⟩) (by show w.heap.size ≤ w0.heap.size; omega) _).drew), fun v hv => ?keepB⟩, t % d, L.set i (t / d), ?s1, ?s2, ?s3, ?s4, ?s5, ?s6, ?s7, ?s8⟩
      case keepB => exact ((World.cell?_setCell_other _ _ _ _ (fun e => by injection e with e1; omega)).trans (World.cell?_setCell_other W _ _ _ (fun e => by injection e with e1; omega))).trans hv
      case s1 => exact (b1.far (p := ⟨w.heap.size + 1 + 1, i, none⟩) (by simp; omega) _).setCell 0 _
      case s2 => exact (b2.far (p := ⟨w.heap.size + 1 + 1, i, none⟩) (by show w.heap.size ≠ w.heap.size + 1 + 1; omega) _).far (p := ⟨w0.heap.size, 0, none⟩) (by simp; omega) _
      case s3 => exact (b3.far (p := ⟨w.heap.size + 1 + 1, i, none⟩) (by simp) _).far (p := ⟨w0.heap.size, 0, none⟩) (by simp; omega) _
      case s4 => exact (((HO.out.set_ i (t / d)).far (g := w0.heap.size) (by simp [Value.ownBlock]; omega) _).up ((Up.refl _).drew))
      case s5 => exact dig_set HDL.out hQQ.out.1
      case s6 => exact hQQ.out.2
      case s7 =>
        intro h1 h2
        obtain ⟨_, h4, h5⟩ := raws_snoc h1
        have h6 := HM.out h4 (by have := HLen.out; omega)
        simp only [List.length_append, List.length_cons, List.length_nil, Nat.zero_add]
        injection h5 with h8 h9
        exact short_step Hn.out HO.out.len HLen.out h8 h9 (by have := HT.out; omega) h6
      case s8 => exact ((Hup.out.setCell (p := ⟨w.heap.size + 1 + 1, i, none⟩) (by simp; omega) _).setCell (p := ⟨w0.heap.size, 0, none⟩) (by simp; omega) _).drew
  case done =>
    rintro D ys W hD hys ⟨r, L, b1, b2, b3, own, hdL, hr, hm, hup⟩ hK
    rename_i Kx hKx
    have hlen : ys.length = n := by have := congrArg List.length hys; rw [raws_len] at this; simpa using this
    have hm2 := hm (by rw [hlen]; exact hys) (by omega)
    rw [hlen, Nat.sub_self, List.drop_zero, List.drop_zero, val_lim] at hm2
    obtain ⟨hq, hr2⟩ := div_end hm2 hr
    have HQ := hide hq
    have HR := hide hr2
    have HDL := hide hdL
    have HLN := hide own.len
    obtain ⟨hlim, _⟩ := own.lim'
    have hD0 : w.heap.size + 1 + 1 < D := by have := HS3.out; omega
    clear hm hys hlen hm2 hq hr2 own hdL bL3 bQ3 bC3 bB3 own3 hup3 HS2 HS3 hA
    show Kx _ _
    refine hKx _ _ ?_
    clear hKx
    have e1 : W.cell? ⟨w.heap.size + 1, 0, none⟩ = some (.slice (some ⟨w.heap.size + 1 + 1, 0, none⟩) n n) := b3.cell (i := 0) rfl
    have e2 : W.cell? ⟨w0.heap.size, 0, none⟩ = some (.int .u64 (r : Int)) := b1.cell (i := 0) rfl
    have f2 := b3.frozen 0
    have hupA : Up W W.drew := (Up.refl W).drew
    have hrB : r < 18446744073709551616 := by omega
    go_wp2_with fail
    rename_i K2 hK2
    refine Code.wp_mono (Q := Exit.then K2 (fun _ _ _ => False)) (fun e a w h => by cases e <;> first | exact h | exact h.elim) ?_
    go_region_with
      (first
        | (go_at_call 72; refine (trim_lim' _ _ _ _ (hlim.up hupA) n (a / d) HLN.out HDL.out HQ.out (by omega) (Nat.le_refl _)).mono ?_; rintro e w3 ⟨⟨n3, rfl, Hn3, hl3, hc3⟩, rfl⟩)
        | (go_at_call 32; refine (split_any r _ hrB).mono ?_; rintro e w3 ⟨A4, n4, c4, rfl, Hn4, hl4, hc4, hnew4, hup4⟩; replace hupA := hupA.trans hup4; have f3 : w3.cell? ⟨w.heap.size + 1, 0, none⟩ = some (.slice (some ⟨w.heap.size + 1 + 1, 0, none⟩) n n) := (b3.up hupA).cell (i := 0) rfl; have f4 := (b3.up hupA).frozen 0))
    all_goals
      show K2 _ _
      refine hK2 _ _ ?_
      have hDl : D < W.heap.size := by
        rcases Nat.lt_or_ge D W.heap.size with h | h
        · exact h
        · rw [Array.getElem?_eq_none h] at hK; cases hK
      have hK3 : (w3.setCell ⟨w.heap.size + 1, 0, none⟩ (.slice (some ⟨w.heap.size + 1 + 1, 0, none⟩) n3 n)).heap[D]? = some (.deferred (some [])) := (Below.heap_setCell w3 ⟨w.heap.size + 1, 0, none⟩ _ D (by show D ≠ w.heap.size + 1; omega)).trans ((hupA.block D hDl).trans hK)
      go_wp2_with fail
      refine ⟨by simp, .inl ⟨_, _, rfl, run_takeDeferred hK3, ?_⟩⟩
      have h0 := ((b3.up hupA).setCell 0 (.slice (some ⟨w.heap.size + 1 + 1, 0, none⟩) n3 n)).cell (i := 0) (v := .slice (some ⟨w.heap.size + 1 + 1, 0, none⟩) n3 n) rfl
      have hq := (World.cell?_of_block (w := w3.setCell ⟨w.heap.size + 1, 0, none⟩ (.slice (some ⟨w.heap.size + 1 + 1, 0, none⟩) n3 n)) ((grownBy_putObj' _ D (.deferred none)).block _ (World.block_lt_of_cell? _ _ h0) (fun e => by have h3 : w.heap.size + 1 = D := Option.some.inj e; omega))).trans h0
      have hl3' : Lim w3 (some ⟨w.heap.size + 1 + 1, 0, none⟩) (lim (a / d)) := by first | exact hl3 | exact hl3.up hup4
      have hl4' : Lim w3 A4 (lim r) := hl4
      have hD4 : NewB (D + 1) A4 := hnew4.mono hDl
      refine ⟨.tuple #[.slice (some ⟨w.heap.size + 1 + 1, 0, none⟩) n3 n, .slice A4 n4 c4], by simp [results, Tryd.results58, go_sem, hq], ?_⟩
      refine ⟨_, n3, n, A4, n4, c4, rfl, Hn3, by rw [← HR.out]; exact Hn4, (hl3'.far (g := w.heap.size + 1) (j := 0) (fun ad e => by cases e; exact Nat.le_refl _) _).grown_ (grownBy_putObj' _ D _) (fun ad e e2 => by cases e; have h3 : w.heap.size + 1 + 1 = D := Option.some.inj e2; omega), ?_, hc3, hc4, fun ad e => by cases e; show w.heap.size ≤ w.heap.size + 1 + 1; omega, hnew4.mono (by have := hup.size; exact this), ?_⟩
      · rw [← HR.out]
        exact (hl4'.far (g := w.heap.size + 1) (j := 0) (hD4.mono (by omega)) _).grown_ (grownBy_putObj' _ D _) (fun ad e e2 => by have h3 : ad.block = D := Option.some.inj e2; have := hD4 ad e; omega)
      · exact ((hup.trans hupA).setCell (p := ⟨w.heap.size + 1, 0, none⟩) (by show w.heap.size ≤ w.heap.size + 1; omega) _).grown (grownBy_putObj' _ D _) (fun k e => by cases e; omega)
  case stop =>
    rintro D c pre W _ _ h _
    exact h.elim
end Go.Proofs.YtijcijdgpeolhaaDoor
