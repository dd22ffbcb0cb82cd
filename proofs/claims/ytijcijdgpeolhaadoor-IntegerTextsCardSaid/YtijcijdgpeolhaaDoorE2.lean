/- Backward's contract; the program's join. -/
import Derived.Test.YtijcijdgpeolhaaDoorE1
import Derived.RangeFuncNested
import Derived.RangeFuncBound
import Derived.RangeFuncCalls
import Derived.RangeFuncLeaves
import Derived.Shelf.Abstract
import Derived.Shelf.RegionOpen
import Derived.OwnWalkIn
import Derived.TacticsInMore
import Derived.LoopNIn
import Derived.LoopIn
namespace Go.Proofs.YtijcijdgpeolhaaDoor
open Go.RowKit Go.Shelf
attribute [local go_sem] Oper.semAt_some

set_option maxRecDepth 100000 in
set_option maxHeartbeats 1000000 in
theorem back0_in (F : Fence) (q : Nat) (hF : F.fn 45) (hro : F.round = none) (l Bs : Nat) (A : Option Addr) (c : Nat) (P : World → Prop) (W : World) (hBs : W.cell? ⟨Bs, 0, none⟩ = some (.slice A 0 c)) (h0 : P W) :
    CallsIn F q Tryd.prog 45 #[.func (.yield l) #[] #[], .pointer (some ⟨Bs, 0, none⟩)] W fun e W' => (∃ v, e = .returned v) ∧ P W' := by
  refine callsIn_of_wp Tryd.func45 rfl hF ?_ hro
  simp only [Tryd.ntmps45, List.size_toArray, List.length_cons, List.length_nil, Nat.reduceAdd, Nat.reduceSub, Array.replicate_succ, Array.replicate_zero, List.push_toArray, List.append_toArray, List.nil_append, List.cons_append]
  gi_wp2
  gi_loopw [3] (fun iv wr => iv = .int .i64 (-1) ∧ P wr) (fun _ _ => 0)
  case atStart => exact ⟨rfl, h0⟩
  case round =>
    obtain ⟨rfl, hJs⟩ := hrel
    gi_wp2
    go_end0
    exact ⟨⟨_, rfl⟩, hJs⟩

/-- Backward's value: it gives the indices and numbers from the last one down. -/
theorem back_stops (F : Fence) (q : Nat) (hF : F.fn 45) (hro : F.round = none) (hq : 1 ≤ q) (Bs n₀ M : Nat) (A : Option Addr) (c n : Nat) (ls : List Nat) (hM : ∀ k, ls.getD k 0 < M) (hn2 : n ≤ 1000000) (Hn : Hid (n = ls.length)) (w : World)
    (hBs : Bs < w.heap.size) (hc : w.cell? ⟨Bs, 0, none⟩ = some (.slice A n c)) (hl : Lim w A ls) (hA : 0 < n → ∀ ad, A = some ad → ad.block < n₀) :
    SeqStopsK F q Tryd.prog 45 #[.pointer (some ⟨Bs, 0, none⟩)] (fun x : Pair n M => #[.int .i64 (x.1.1 : Nat), .int .u32 (x.1.2 : Nat)]) (KeepBox n₀ Bs) (fun ys => ys.map (fun x => x.1) = raws ls n n) (fun pre => ∃ k, k ≤ n ∧ pre.map (fun x => x.1) = raws ls n k) n w := fun l J Jx W hW _ _ hY h0 => by
  have hc' := (hW.cell (p := ⟨Bs, 0, none⟩) hBs).trans hc
  rcases Nat.eq_zero_or_pos n with hz | hn
  · subst hz
    exact (back0_in F q hF hro l Bs A c (J []) W hc' h0).mono fun e W' ⟨he, hj⟩ => ⟨he, .inl ⟨[], rfl, hj⟩⟩
  · exact back1_in F q hF hro hq l Bs n₀ M A c n ls hn hM hn2 Hn J Jx hY W hc' (hl.up hW) (hA hn) h0
theorem raws_succ (l : List Nat) (n k : Nat) : raws l n (k + 1) = raws l n k ++ [(n - 1 - k, l.getD (n - 1 - k) 0)] := by simp [raws, List.range_succ]
theorem raws_len (l : List Nat) (n k : Nat) : (raws l n k).length = k := by simp [raws]
/-- If a list with one more has come as it should, so has the list. -/
theorem raws_snoc {n M : Nat} {l : List Nat} {pre : List (Pair n M)} {x : Pair n M} {k : Nat} (h : (pre ++ [x]).map (fun x => x.1) = raws l n k) : k = pre.length + 1 ∧ pre.map (fun x => x.1) = raws l n pre.length ∧ x.1 = (n - 1 - pre.length, l.getD (n - 1 - pre.length) 0) := by
  have h1 := congrArg List.length h
  rw [raws_len] at h1
  simp at h1
  subst h1
  rw [raws_succ, List.map_append] at h
  have h2 := List.append_inj h (by rw [raws_len]; simp)
  exact ⟨rfl, h2.1, by simpa using h2.2⟩
theorem join_math {v y V : Nat} (h : V = y + 1000000000 * v) (hV : V < 18446744073709551616) : IntKind.u64.wrap (IntKind.u64.wrap ((v : Int) * 1000000000) + IntKind.u64.wrap (y : Int)) = (V : Int) := by
  rw [IntKind.wrap_u64, IntKind.wrap_u64, IntKind.wrap_u64]; omega
theorem drop_back {l : List Nat} {n k : Nat} (hn : n = l.length) (hk : k < n) : val (l.drop (n - (k + 1))) = l.getD (n - 1 - k) 0 + 1000000000 * val (l.drop (n - k)) := by
  rw [val_drop_step l (by omega), show n - (k + 1) + 1 = n - k by omega, show n - (k + 1) = n - 1 - k by omega]
theorem val_drop_le (l : List Nat) (k : Nat) : val (l.drop k) ≤ val l := by
  induction l generalizing k with
  | nil => simp
  | cons x l ih =>
    cases k with
    | zero => simp
    | succ k => simp only [List.drop_succ_cons, val]; have := ih k; omega

set_option maxRecDepth 100000 in
set_option maxHeartbeats 4000000 in
theorem join_any (A : Option Addr) (c n x : Nat) (w : World) (hl : Lim w A (lim x)) (Hn : Hid (n = (lim x).length)) (hx : x < 18446744073709551616) :
    Calls Tryd.prog 33 #[.slice A n c] w fun e w' => e = .returned (.int .u64 x) ∧ Up w w' := by
  have hn3 : n ≤ 1000000 := by
    have h1 : (lim x).length ≤ 3 := by
      rw [lim_len_le]
      have h2 : bas 3 = 1000000000000000000000000000 := rfl
      omega
    rw [Hn.out]; omega
  have HXX := hide hx
  clear hx
  refine (callsIn_wide (n := 5)).1 ?_
  refine callsIn_of_wp_marks Tryd.func33 rfl trivial ?_ rfl
  simp only [Tryd.ntmps33, List.size_toArray, List.length_cons, List.length_nil, Nat.reduceAdd, Nat.reduceSub, Array.replicate_succ, Array.replicate_zero, List.push_toArray, List.append_toArray, List.nil_append, List.cons_append]
  gi_wp2_with fail
  refine ⟨trivial, ?_⟩
  refine (back_in Fence.wide (5 - 1) trivial rfl _ _ _ _).mono ?_
  rintro e w' ⟨rfl, rfl⟩
  gi_wp2
  have bS := (Boxed.new w 58 (.int .u64 0)).alloc (.cells #[.slice A n c] 22)
  have bN := Boxed.new (w.alloc (.cells #[.int .u64 0] 58)) 22 (.slice A n c)
  rw [World.size_alloc] at bN
  have hB0 : Up w ((w.alloc (.cells #[.int .u64 0] 58)).alloc (.cells #[.slice A n c] 22)) := ((Up.refl w).alloc _).alloc _
  have hA : 0 < n → ∀ ad, A = some ad → ad.block < w.heap.size := fun h ad e => by
    obtain ⟨ad', e', hb, _⟩ := hl.at_ (k := 0) (by rw [← Hn.out]; exact h)
    rw [e] at e'
    cases e'
    exact hb
  refine wpIn_rangeFunc_ownG rfl (by omega) (gf := 45) (lb := #[.pointer (some ⟨w.heap.size + 1, 0, none⟩)]) rfl trivial (enters_of Tryd.func45 (by kernel_rfl) rfl)
    (back_stops Fence.wide (5 - 1) trivial rfl (by omega) (w.heap.size + 1) w.heap.size 1000000000 A c n (lim x) (dig_getD (dig_lim x)) hn3 Hn _ (by simp) bN.cell (hl.up hB0) hA)
    (fun h k => ⟨h.1.trans k.1, fun v hv => k.2 v (h.2 v hv)⟩)
    (fun W l o o' hle h h1 h2 => ⟨belowK_b (w := (w.alloc (.cells #[.int .u64 0] 58)).alloc (.cells #[.slice A n c] 22)) (by simp; omega) W l o o' hle h h1 h2, fun v hv => (World.cell?_of_block (w := W) ((grownBy_putObj' W l o').block _ (World.block_lt_of_cell? W _ hv) (fun e => by cases e; simp at hle; omega))).trans hv⟩)
    (Below.refl _ _) (fun _ => rfl)
    (fun pre W => (∃ a : Int, W.cell? ⟨w.heap.size, 0, none⟩ = some (.int .u64 a) ∧ W.frozen? ⟨w.heap.size, 0, none⟩ = false ∧ (pre.map (fun y => y.1) = raws (lim x) n pre.length → pre.length ≤ n → a = (val ((lim x).drop (n - pre.length)) : Nat))) ∧ Below w.heap.size w W)
    (fun _ _ _ => False)
    (OwnFrom.and (Own.from (fun s X Y row hs hg hr => by obtain ⟨a, hc, hf, hm⟩ := hs; exact ⟨a, cell_kept hc hg hr, (frozen_kept hc hg hr).trans hf, hm⟩) _) (ownFrom_below (Nat.le_refl _) (by simp; omega)))
    (fun _ _ _ _ _ hs _ _ => hs)
    ⟨⟨0, bS.cell, bS.frozen, fun _ _ => by rw [List.drop_eq_nil_of_le (by rw [← Hn.out]; simp)]; rfl⟩, hB0⟩
    (fun y => { tmps := #[.slice A n c, undef, .int .u64 0, .pointer (some ⟨w.heap.size, 0, none⟩), undef, .int .u32 (y.1.2 : Nat), .slice A n c, .func (.func 45) #[] #[.pointer (some ⟨w.heap.size + 1, 0, none⟩)], .int .i64 (y.1.1 : Nat), .int .u32 (y.1.2 : Nat), undef, undef, undef, undef, undef, undef], defers := [] }) ?assign ?body ?done ?stop
  case assign =>
    intro l y W K hK
    gi_wp2
    exact hK
  case body =>
    rintro l pre y W ⟨⟨a, hc, hf, hm⟩, hB⟩ hlen
    have HM := hide hm
    clear hm
    gi_wp2
    refine ⟨(KeepsOthers.setCell _ _ _).from _, ⟨(Below.refl w.heap.size W).setCell (p := ⟨w.heap.size, 0, none⟩) (Nat.le_refl _) _, fun v hv => (World.cell?_setCell_other W _ _ _ (fun e => by injection e with e1; omega)).trans hv⟩, ⟨_, World.cell?_setCell_same' _ _ _ (by rw [hc]; rfl), by rw [World.frozen?_setCell]; exact hf, fun h1 h2 => ?_⟩, hB.setCell (p := ⟨w.heap.size, 0, none⟩) (Nat.le_refl _) _⟩
    obtain ⟨_, h4, h5⟩ := raws_snoc h1
    have h6 := HM.out h4 (by omega)
    have h7 : (pre ++ [y]).length = pre.length + 1 := by simp
    rw [h6, h7]
    refine join_math ?_ ?_
    · rw [drop_back Hn.out hlen, h5]
    · exact Nat.lt_of_le_of_lt (val_drop_le _ _) (by rw [val_lim]; exact HXX.out)
  case done =>
    rintro D ys W hD hys ⟨⟨a, hc, hf, hm⟩, hB⟩ hK
    have hlen : ys.length = n := by have := congrArg List.length hys; rw [raws_len] at this; simpa using this
    have ha : Hid (a = (x : Int)) := by
      show a = _
      rw [hm (by rw [hlen]; exact hys) (by omega), hlen, Nat.sub_self, List.drop_zero, val_lim]
    clear hm hys hlen
    gi_wp2
    refine ⟨by simp, .inl ⟨_, _, rfl, run_takeDeferred hK, ?_⟩⟩
    exact ⟨_, results_tmp rfl _ _ _, by rw [← ha.out]; rfl, hB.trans (belowK_b (w := w) (Nat.le_refl _) W D _ _ (by simp at hD; omega) hK rfl rfl)⟩
  case stop =>
    rintro D c pre W _ _ h _
    exact h.elim
end Go.Proofs.YtijcijdgpeolhaaDoor
