import Derived.Test.YtldifgfpecicnaaGreatDoorGD
import Derived.RangeFuncNested
import Derived.RangeFuncBound
import Derived.RangeFuncCalls
import Derived.RangeFuncLeaves
import Derived.Shelf.Abstract
import Derived.Shelf.RegionOpen
import Derived.OwnWalkIn
import Derived.TacticsInMore
import Derived.LoopNIn
import Derived.LoopIn
import Derived.Deep.RegionHeld3
import Derived.Deep.RegionWith
import Derived.Deep.LoopGhost
import Derived.Test.YtldifgfpecicnaaGreatDoorGC
/- slices.Backward over uint32. -/
namespace Go.Proofs.YtldifgfpecicnaaGreatDoor
open Go.RowKit Go.Shelf
attribute [local go_sem] Oper.semAt_some

/-- An index and a number, both within bounds. -/
def Pair (n M : Nat) : Type := { x : Nat × Nat // x.1 < n ∧ x.2 < M }
/-- What comes in the k-th round. -/
def pairAt {n M : Nat} (l : List Nat) (hn : 0 < n) (hM : ∀ k, l.getD k 0 < M) (k : Nat) : Pair n M := ⟨(n - 1 - k, l.getD (n - 1 - k) 0), by dsimp only; omega, hM _⟩
/-- What has come when k rounds are over. -/
def pairs {n M : Nat} (l : List Nat) (hn : 0 < n) (hM : ∀ k, l.getD k 0 < M) (k : Nat) : List (Pair n M) := (List.range k).map (pairAt l hn hM)
theorem pairs_succ {n M : Nat} (l : List Nat) (hn : 0 < n) (hM : ∀ k, l.getD k 0 < M) (k : Nat) : pairs l hn hM (k + 1) = pairs l hn hM k ++ [pairAt l hn hM k] := by simp [pairs, List.range_succ]
theorem pairs_len {n M : Nat} (l : List Nat) (hn : 0 < n) (hM : ∀ k, l.getD k 0 < M) (k : Nat) : (pairs l hn hM k).length = k := by simp [pairs]
/-- The indices and numbers in the order in which they come, k of them. -/
def raws (l : List Nat) (n k : Nat) : List (Nat × Nat) := (List.range k).map fun k => (n - 1 - k, l.getD (n - 1 - k) 0)
theorem raws_pairs {n M : Nat} (l : List Nat) (hn : 0 < n) (hM : ∀ k, l.getD k 0 < M) (k : Nat) : (pairs l hn hM k).map (fun x => x.1) = raws l n k := by simp [pairs, raws, pairAt]
/-- What a round must keep: old memory, and the iterator's box. -/
def KeepBox (n₀ Bs : Nat) (W W' : World) : Prop := Below n₀ W W' ∧ ∀ v, W.cell? ⟨Bs, 0, none⟩ = some v → W'.cell? ⟨Bs, 0, none⟩ = some v

set_option maxRecDepth 100000 in
set_option maxHeartbeats 2000000 in
theorem back1_in (F : Fence) (q : Nat) (hF : F.fn 124) (hro : F.round = none) (hq : 1 ≤ q) (l Bs n₀ M : Nat) (A : Option Addr) (c n : Nat) (ls : List Nat) (hn : 0 < n) (hM : ∀ k, ls.getD k 0 < M) (hn2 : n ≤ 1000000) (Hn : Hid (n = ls.length)) (J Jx : List (Pair n M) → World → Prop)
    (hY : ∀ pre x W, J pre W → pre.length < n → YieldAt F (q - 1) Tryz.prog l #[.int .i64 ((x : Pair n M).1.1 : Nat), .int .u32 (x.1.2 : Nat)] W fun e W' =>
      (e = .returned (.bool true) ∧ J (pre ++ [x]) W' ∧ KeepBox n₀ Bs W W') ∨ (e = .returned (.bool false) ∧ Jx (pre ++ [x]) W'))
    (W : World) (hBs : W.cell? ⟨Bs, 0, none⟩ = some (.slice A n c)) (hl : Lim W A ls) (hA : ∀ ad, A = some ad → ad.block < n₀) (h0 : J [] W) :
    CallsIn F q Tryz.prog 124 #[.func (.yield l) #[] #[], .pointer (some ⟨Bs, 0, none⟩)] W fun e W' => (∃ v, e = .returned v) ∧
      ((∃ ys, ys.map (fun x => x.1) = raws ls n n ∧ J ys W') ∨ (∃ pre, (∃ k, k ≤ n ∧ pre.map (fun x => x.1) = raws ls n k) ∧ Jx pre W')) := by
  refine callsIn_of_wp Tryz.func124 rfl hF ?_ hro
  simp only [Tryz.ntmps124, List.size_toArray, List.length_cons, List.length_nil, Nat.reduceAdd, Nat.reduceSub, Array.replicate_succ, Array.replicate_zero, List.push_toArray, List.append_toArray, List.nil_append, List.cons_append]
  gi_wp2
  gi_loopw [3] (fun iv wr => ∃ (j : Int) (m k : Nat), iv = .int .i64 j ∧ j + 1 = m ∧ m + k = n ∧ J (pairs ls hn hM k) wr ∧ KeepBox n₀ Bs W wr) (fun iv _ => (intOf iv + 1).toNat)
  case atStart => exact ⟨_, n, 0, rfl, by omega, by omega, h0, Below.refl _ _, fun _ h => h⟩
  case round =>
    obtain ⟨j, m, k, rfl, hj, hmk, hJs, hKb⟩ := hrel
    have hBr := hKb.2 _ hBs
    by_cases hpos : 0 < m
    · obtain ⟨m, rfl⟩ : ∃ m', m = m' + 1 := ⟨m - 1, by omega⟩
      obtain rfl : j = (m : Int) := by omega
      obtain ⟨ad, rfl, hb, hcell0⟩ := hl.at_ (k := m) (by rw [← Hn.out]; omega)
      have hcell : wr.cell? (ad.add m) = some (.int .u32 ((ls.getD m 0 : Nat) : Int)) := (hKb.1.cell (by rw [addBlock]; exact hA ad rfl)).trans hcell0
      obtain ⟨fn, tmps, assign, body, hy, hR⟩ := hY _ (pairAt ls hn hM k) wr hJs (by rw [pairs_len]; omega)
      have e1 : (pairAt ls hn hM k).1.1 = m := by show n - 1 - k = m; omega
      have e2 : (pairAt ls hn hM k).1.2 = ls.getD m 0 := by show ls.getD (n - 1 - k) 0 = _; rw [show n - 1 - k = m by omega]
      rw [e1, e2] at hy
      obtain ⟨x, Hx⟩ : ∃ x, Hid (x = ls.getD m 0) := ⟨_, rfl⟩
      rw [← Hx.out] at hy hcell
      have HMK := hide hmk
      have hmn : m < n := by omega
      clear hcell0 e1 e2 hj hmk hpos hl
      gi_wp2
      refine hR.mono ?_
      rintro e W3 (⟨rfl, hJ3, hk3⟩ | ⟨rfl, hJx3⟩)
      · gi_wp2
        go_roundw
        case rel => exact ⟨_, m, k + 1, rfl, by omega, by have := HMK.out; omega, by rw [pairs_succ]; exact hJ3, hKb.1.trans hk3.1, fun v h => hk3.2 v (hKb.2 v h)⟩
        case measure => simp [intOf]
      · gi_wp2
        refine bodyPost_ret (results_none rfl _ _ _) rfl ?_
        exact ⟨⟨_, rfl⟩, .inr ⟨_, ⟨k + 1, by have := HMK.out; omega, by rw [← raws_pairs ls hn hM, pairs_succ]⟩, hJx3⟩⟩
    · obtain rfl : m = 0 := by omega
      obtain rfl : j = -1 := by omega
      obtain rfl : k = n := by omega
      gi_wp2
      go_end0
      exact ⟨⟨_, rfl⟩, .inl ⟨_, raws_pairs ls hn hM k, hJs⟩⟩

set_option maxRecDepth 100000 in
set_option maxHeartbeats 1000000 in
theorem back_in (F : Fence) (q : Nat) (hF : F.fn 94) (hro : F.round = none) (A : Option Addr) (n c : Nat) (w : World) :
    CallsIn F q Tryz.prog 94 #[.slice A n c] w fun e w' => e = .returned (.func (.func 124) #[] #[.pointer (some ⟨w.heap.size, 0, none⟩)]) ∧ w' = w.alloc (.cells #[.slice A n c] 22) := by
  refine callsIn_of_wp Tryz.func94 rfl hF ?_ hro
  simp only [Tryz.ntmps94, List.size_toArray, List.length_cons, List.length_nil, Nat.reduceAdd, Nat.reduceSub, Array.replicate_succ, Array.replicate_zero, List.push_toArray, List.append_toArray, List.nil_append, List.cons_append]
  gi_wp2
  go_ret
  exact ⟨rfl, rfl⟩
end Go.Proofs.YtldifgfpecicnaaGreatDoor
/- Backward's contract; the program's join. -/
namespace Go.Proofs.YtldifgfpecicnaaGreatDoor
open Go.RowKit Go.Shelf
attribute [local go_sem] Oper.semAt_some

set_option maxRecDepth 100000 in
set_option maxHeartbeats 1000000 in
theorem back0_in (F : Fence) (q : Nat) (hF : F.fn 124) (hro : F.round = none) (l Bs : Nat) (A : Option Addr) (c : Nat) (P : World → Prop) (W : World) (hBs : W.cell? ⟨Bs, 0, none⟩ = some (.slice A 0 c)) (h0 : P W) :
    CallsIn F q Tryz.prog 124 #[.func (.yield l) #[] #[], .pointer (some ⟨Bs, 0, none⟩)] W fun e W' => (∃ v, e = .returned v) ∧ P W' := by
  refine callsIn_of_wp Tryz.func124 rfl hF ?_ hro
  simp only [Tryz.ntmps124, List.size_toArray, List.length_cons, List.length_nil, Nat.reduceAdd, Nat.reduceSub, Array.replicate_succ, Array.replicate_zero, List.push_toArray, List.append_toArray, List.nil_append, List.cons_append]
  gi_wp2
  gi_loopw [3] (fun iv wr => iv = .int .i64 (-1) ∧ P wr) (fun _ _ => 0)
  case atStart => exact ⟨rfl, h0⟩
  case round =>
    obtain ⟨rfl, hJs⟩ := hrel
    gi_wp2
    go_end0
    exact ⟨⟨_, rfl⟩, hJs⟩

/-- Backward's value: it gives the indices and numbers from the last one down. -/
theorem back_stops (F : Fence) (q : Nat) (hF : F.fn 124) (hro : F.round = none) (hq : 1 ≤ q) (Bs n₀ M : Nat) (A : Option Addr) (c n : Nat) (ls : List Nat) (hM : ∀ k, ls.getD k 0 < M) (hn2 : n ≤ 1000000) (Hn : Hid (n = ls.length)) (w : World)
    (hBs : Bs < w.heap.size) (hc : w.cell? ⟨Bs, 0, none⟩ = some (.slice A n c)) (hl : Lim w A ls) (hA : 0 < n → ∀ ad, A = some ad → ad.block < n₀) :
    SeqStopsK F q Tryz.prog 124 #[.pointer (some ⟨Bs, 0, none⟩)] (fun x : Pair n M => #[.int .i64 (x.1.1 : Nat), .int .u32 (x.1.2 : Nat)]) (KeepBox n₀ Bs) (fun ys => ys.map (fun x => x.1) = raws ls n n) (fun pre => ∃ k, k ≤ n ∧ pre.map (fun x => x.1) = raws ls n k) n w := fun l J Jx W hW _ _ hY h0 => by
  have hc' := (hW.cell (p := ⟨Bs, 0, none⟩) hBs).trans hc
  rcases Nat.eq_zero_or_pos n with hz | hn
  · subst hz
    exact (back0_in F q hF hro l Bs A c (J []) W hc' h0).mono fun e W' ⟨he, hj⟩ => ⟨he, .inl ⟨[], rfl, hj⟩⟩
  · exact back1_in F q hF hro hq l Bs n₀ M A c n ls hn hM hn2 Hn J Jx hY W hc' (hl.up hW) (hA hn) h0
theorem raws_succ (l : List Nat) (n k : Nat) : raws l n (k + 1) = raws l n k ++ [(n - 1 - k, l.getD (n - 1 - k) 0)] := by simp [raws, List.range_succ]
theorem raws_len (l : List Nat) (n k : Nat) : (raws l n k).length = k := by simp [raws]
/-- If a list with one more has come as it should, so has the list. -/
theorem raws_snoc {n M : Nat} {l : List Nat} {pre : List (Pair n M)} {x : Pair n M} {k : Nat} (h : (pre ++ [x]).map (fun x => x.1) = raws l n k) : k = pre.length + 1 ∧ pre.map (fun x => x.1) = raws l n pre.length ∧ x.1 = (n - 1 - pre.length, l.getD (n - 1 - pre.length) 0) := by
  have h1 := congrArg List.length h
  rw [raws_len] at h1
  simp at h1
  subst h1
  rw [raws_succ, List.map_append] at h
  have h2 := List.append_inj h (by rw [raws_len]; simp)
  exact ⟨rfl, h2.1, by simpa using h2.2⟩
theorem join_math {v y V : Nat} (h : V = y + 1000000000 * v) (hV : V < 18446744073709551616) : IntKind.u64.wrap (IntKind.u64.wrap ((v : Int) * 1000000000) + IntKind.u64.wrap (y : Int)) = (V : Int) := by
  rw [IntKind.wrap_u64, IntKind.wrap_u64, IntKind.wrap_u64]; omega
theorem drop_back {l : List Nat} {n k : Nat} (hn : n = l.length) (hk : k < n) : val (l.drop (n - (k + 1))) = l.getD (n - 1 - k) 0 + 1000000000 * val (l.drop (n - k)) := by
  rw [val_drop_step l (by omega), show n - (k + 1) + 1 = n - k by omega, show n - (k + 1) = n - 1 - k by omega]
theorem val_drop_le (l : List Nat) (k : Nat) : val (l.drop k) ≤ val l := by
  induction l generalizing k with
  | nil => simp
  | cons x l ih =>
    cases k with
    | zero => simp
    | succ k => simp only [List.drop_succ_cons, val]; have := ih k; omega

set_option maxRecDepth 100000 in
set_option maxHeartbeats 4000000 in
theorem join_any (A : Option Addr) (c n x : Nat) (w : World) (hl : Lim w A (lim x)) (Hn : Hid (n = (lim x).length)) (hx : x < 18446744073709551616) :
    Calls Tryz.prog 118 #[.slice A n c] w fun e w' => e = .returned (.int .u64 x) ∧ Up w w' := by
  have hn3 : n ≤ 1000000 := by
    have h1 : (lim x).length ≤ 3 := by
      rw [lim_len_le]
      have h2 : bas 3 = 1000000000000000000000000000 := rfl
      omega
    rw [Hn.out]; omega
  have HXX := hide hx
  clear hx
  refine (callsIn_wide (n := 5)).1 ?_
  refine callsIn_of_wp_marks Tryz.func118 rfl trivial ?_ rfl
  simp only [Tryz.ntmps118, List.size_toArray, List.length_cons, List.length_nil, Nat.reduceAdd, Nat.reduceSub, Array.replicate_succ, Array.replicate_zero, List.push_toArray, List.append_toArray, List.nil_append, List.cons_append]
  gi_wp2_with fail
  refine ⟨trivial, ?_⟩
  refine (back_in Fence.wide (5 - 1) trivial rfl _ _ _ _).mono ?_
  rintro e w' ⟨rfl, rfl⟩
  gi_wp2
  have bS := (Boxed.new w 98 (.int .u64 0)).alloc (.cells #[.slice A n c] 22)
  have bN := Boxed.new (w.alloc (.cells #[.int .u64 0] 98)) 22 (.slice A n c)
  rw [World.size_alloc] at bN
  have hB0 : Up w ((w.alloc (.cells #[.int .u64 0] 98)).alloc (.cells #[.slice A n c] 22)) := ((Up.refl w).alloc _).alloc _
  have hA : 0 < n → ∀ ad, A = some ad → ad.block < w.heap.size := fun h ad e => by
    obtain ⟨ad', e', hb, _⟩ := hl.at_ (k := 0) (by rw [← Hn.out]; exact h)
    rw [e] at e'
    cases e'
    exact hb
  refine wpIn_rangeFunc_ownG rfl (by omega) (gf := 124) (lb := #[.pointer (some ⟨w.heap.size + 1, 0, none⟩)]) rfl trivial (enters_of Tryz.func124 (by kernel_rfl) rfl)
    (back_stops Fence.wide (5 - 1) trivial rfl (by omega) (w.heap.size + 1) w.heap.size 1000000000 A c n (lim x) (dig_getD (dig_lim x)) hn3 Hn _ (by simp) bN.cell (hl.up hB0) hA)
    (fun h k => ⟨h.1.trans k.1, fun v hv => k.2 v (h.2 v hv)⟩)
    (fun W l o o' hle h h1 h2 => ⟨belowK_b (w := (w.alloc (.cells #[.int .u64 0] 98)).alloc (.cells #[.slice A n c] 22)) (by simp; omega) W l o o' hle h h1 h2, fun v hv => (World.cell?_of_block (w := W) ((grownBy_putObj' W l o').block _ (World.block_lt_of_cell? W _ hv) (fun e => by cases e; simp at hle; omega))).trans hv⟩)
    (Below.refl _ _) (fun _ => rfl)
    (fun pre W => (∃ a : Int, W.cell? ⟨w.heap.size, 0, none⟩ = some (.int .u64 a) ∧ W.frozen? ⟨w.heap.size, 0, none⟩ = false ∧ (pre.map (fun y => y.1) = raws (lim x) n pre.length → pre.length ≤ n → a = (val ((lim x).drop (n - pre.length)) : Nat))) ∧ Below w.heap.size w W)
    (fun _ _ _ => False)
    (OwnFrom.and (Own.from (fun s X Y row hs hg hr => by obtain ⟨a, hc, hf, hm⟩ := hs; exact ⟨a, cell_kept hc hg hr, (frozen_kept hc hg hr).trans hf, hm⟩) _) (ownFrom_below (Nat.le_refl _) (by simp; omega)))
    (fun _ _ _ _ _ hs _ _ => hs)
    ⟨⟨0, bS.cell, bS.frozen, fun _ _ => by rw [List.drop_eq_nil_of_le (by rw [← Hn.out]; simp)]; rfl⟩, hB0⟩
    (fun y => { tmps := #[.slice A n c, undef, .int .u64 0, .pointer (some ⟨w.heap.size, 0, none⟩), undef, .int .u32 (y.1.2 : Nat), .slice A n c, .func (.func 124) #[] #[.pointer (some ⟨w.heap.size + 1, 0, none⟩)], .int .i64 (y.1.1 : Nat), .int .u32 (y.1.2 : Nat), undef, undef, undef, undef, undef, undef], defers := [] }) ?assign ?body ?done ?stop
  case assign =>
    intro l y W K hK
    gi_wp2
    exact hK
  case body =>
    rintro l pre y W ⟨⟨a, hc, hf, hm⟩, hB⟩ hlen
    have HM := hide hm
    clear hm
    gi_wp2
    refine ⟨(KeepsOthers.setCell _ _ _).from _, ⟨(Below.refl w.heap.size W).setCell (p := ⟨w.heap.size, 0, none⟩) (Nat.le_refl _) _, fun v hv => (World.cell?_setCell_other W _ _ _ (fun e => by injection e with e1; omega)).trans hv⟩, ⟨_, World.cell?_setCell_same' _ _ _ (by rw [hc]; rfl), by rw [World.frozen?_setCell]; exact hf, fun h1 h2 => ?_⟩, hB.setCell (p := ⟨w.heap.size, 0, none⟩) (Nat.le_refl _) _⟩
    obtain ⟨_, h4, h5⟩ := raws_snoc h1
    have h6 := HM.out h4 (by omega)
    have h7 : (pre ++ [y]).length = pre.length + 1 := by simp
    rw [h6, h7]
    refine join_math ?_ ?_
    · rw [drop_back Hn.out hlen, h5]
    · exact Nat.lt_of_le_of_lt (val_drop_le _ _) (by rw [val_lim]; exact HXX.out)
  case done =>
    rintro D ys W hD hys ⟨⟨a, hc, hf, hm⟩, hB⟩ hK
    have hlen : ys.length = n := by have := congrArg List.length hys; rw [raws_len] at this; simpa using this
    have ha : Hid (a = (x : Int)) := by
      show a = _
      rw [hm (by rw [hlen]; exact hys) (by omega), hlen, Nat.sub_self, List.drop_zero, val_lim]
    clear hm hys hlen
    gi_wp2
    refine ⟨by simp, .inl ⟨_, _, rfl, run_takeDeferred hK, ?_⟩⟩
    exact ⟨_, results_tmp rfl _ _ _, by rw [← ha.out]; rfl, hB.trans (belowK_b (w := w) (Nat.le_refl _) W D _ _ (by simp at hD; omega) hK rfl rfl)⟩
  case stop =>
    rintro D c pre W _ _ h _
    exact h.elim
end Go.Proofs.YtldifgfpecicnaaGreatDoor
/- A region that draws its order, inside a round: as outside of it, if it defers nothing. -/
namespace Go.Proofs.YtldifgfpecicnaaGreatDoor
open Go.RowKit

def defersNot (ops : Array Oper) : Bool := ops.toList.all fun o => match o.op with | .defer _ => false | _ => true
theorem defersNot_at {ops : Array Oper} (h : defersNot ops = true) {i : Nat} {o : Oper} (ho : ops[i]? = some o) : ∀ c, o.op ≠ .defer c := fun c hc => by
  have hm : o ∈ ops.toList := by
    rw [← Array.getElem?_toList] at ho
    exact List.mem_of_getElem? ho
  have := List.all_eq_true.1 h o hm
  simp [hc] at this
theorem op_inRound {F : Fence} {n : Nat} {P : Program} {ops : Array Oper} {Q : Exit → Act → World → Prop} (l : Nat) (hd : defersNot ops = true) {i : Nat} {K : Act → World → Prop} {a : Act} {w : World}
    (h : wpOpIn F n P ops Q i K a w) : wpOpIn (F.inRound l) n P ops Q i K a w := by
  unfold wpOpIn at h ⊢
  cases ho : ops[i]? with
  | none => rw [ho] at h; exact h
  | some o =>
    rw [ho] at h
    simp only [] at h ⊢
    split
    · rename_i hw
      rw [if_pos hw] at h
      refine ⟨h.1, ?_⟩
      have h2 := h.2
      rw [Oper.semAt_eq _ _ _ (defersNot_at hd ho)] at h2 ⊢
      exact h2
    · rename_i hw
      rw [if_neg hw] at h
      exact h
theorem any_inRound {F : Fence} {n : Nat} {P : Program} {md : Region.Mode} {ops : Array Oper} {Q : Exit → Act → World → Prop} (l : Nat) (hd : defersNot ops = true) :
    ∀ (fuel : Nat) (listed : Array Bool) (a : Act) (w : World), wpAnyIn F n P md ops Q fuel listed a w → wpAnyIn (F.inRound l) n P md ops Q fuel listed a w
  | 0, _, _, _, h => h
  | fuel + 1, _, _, _, h => ⟨h.1, fun i hi => op_inRound l hd (wpOpIn_mono (fun a' w' h' => any_inRound l hd fuel _ a' w' h') (h.2 i hi))⟩
theorem region_inRound {F : Fence} {n : Nat} {P : Program} {id l : Nat} {ops : Array Oper} {Q : Exit → Act → World → Prop} {a : Act} {w : World} (hm : P.follows .mixedOrders = true) (hd : defersNot ops = true)
    (h : wpAnyIn F n P .any ops Q ops.size (Array.replicate ops.size false) a w.drew) : (Code.region id ops true).wpIn (F.inRound l) n P Q a w :=
  wpIn_region_any hm (any_inRound l hd _ _ a _ h)
end Go.Proofs.YtldifgfpecicnaaGreatDoor
/- The program's short. -/
namespace Go.Proofs.YtldifgfpecicnaaGreatDoor
open Go.RowKit Go.Shelf
attribute [local go_sem] Oper.semAt_some

theorem Own.far {w : World} {base n g : Nat} {v : Value} {l : List Nat} (h : Own w base v n l) (hne : v.ownBlock ≠ some g) (u : Value) : Own (w.setCell ⟨g, 0, none⟩ u) base v n l :=
  World.ownsRow.kept h (grownBy_setCell' w g u) (.inr hne)
theorem Own.grown {w w' : World} {base n : Nat} {v : Value} {l : List Nat} {row : Option Nat} (h : Own w base v n l) (hg : w.grownBy w' row) (hne : v.ownBlock ≠ row) : Own w' base v n l :=
  World.ownsRow.kept h hg (.inr hne)
theorem Lim.grown_ {w w' : World} {A : Option Addr} {l : List Nat} {row : Option Nat} (h : Lim w A l) (hg : w.grownBy w' row) (hne : ∀ ad, A = some ad → some ad.block ≠ row) : Lim w' A l := by
  rcases h with h | ⟨ad, e, hb, hc⟩
  · exact .inl h
  · exact .inr ⟨ad, e, Nat.lt_of_lt_of_le hb hg.size, fun j x hj => (World.cell?_of_block (w := w) (a := ad.add j) (hg.block _ (by rw [addBlock]; exact hb) (by rw [addBlock]; exact hne ad e))).trans (hc j x hj)⟩
theorem short_q {r x d : Nat} (hr : r < d) (hx : x < 1000000000) : (r * 1000000000 + x) / d < 1000000000 ∧ (r * 1000000000 + x) % d < d := by
  refine ⟨Nat.div_lt_of_lt_mul ?_, Nat.mod_lt _ (by omega)⟩
  have h1 : r * 1000000000 + x < (r + 1) * 1000000000 := by rw [Nat.add_mul, Nat.one_mul]; exact Nat.add_lt_add_left hx _
  exact Nat.lt_of_lt_of_le h1 (Nat.mul_le_mul_right _ hr)

theorem short_lin {x P r D M t : Nat} (h : D + M = t) (ht : t = r * 1000000000 + x) : x + 1000000000 * (P + r) = D + 1000000000 * P + M := by omega
theorem short_step {l L : List Nat} {n k d r t i x : Nat} (hl : n = l.length) (hL : L.length = n) (hk : k < n) (hi : i = n - 1 - k) (hx : x = l.getD (n - 1 - k) 0) (ht : t = r * 1000000000 + x) (hm : val (l.drop (n - k)) = val (L.drop (n - k)) * d + r) :
    val (l.drop (n - (k + 1))) = val ((L.set i (t / d)).drop (n - (k + 1))) * d + t % d := by
  rw [drop_back hl hk, ← hx, hm, hi, show n - (k + 1) = n - 1 - k by omega, val_drop_set L (by omega), show n - 1 - k + 1 = n - k by omega, Nat.add_mul, Nat.mul_assoc, Nat.mul_comm (t / d) d]
  exact short_lin (Nat.div_add_mod t d) ht

set_option maxRecDepth 100000 in
set_option linter.unusedSimpArgs false in
set_option maxRecDepth 100000 in
set_option maxHeartbeats 4000000 in
theorem short_any (A : Option Addr) (c n a d : Nat) (w : World) (hl : Lim w A (lim a)) (Hn : Hid (n = (lim a).length)) (hn : n ≤ 10000) (hd0 : 0 < d) (hd : d < 1000000000) :
    Calls Tryz.prog 132 #[.slice A n c, .int .u32 d] w (RetLim2 w (a / d) (a % d)) := by
  refine (callsIn_wide (n := 5)).1 ?_
  refine callsIn_of_wp_marks Tryz.func132 rfl trivial ?_ rfl
  simp only [Tryz.ntmps132, List.size_toArray, List.length_cons, List.length_nil, Nat.reduceAdd, Nat.reduceSub, Array.replicate_succ, Array.replicate_zero, List.push_toArray, List.append_toArray, List.nil_append, List.cons_append]
  obtain ⟨w1, hw1⟩ : ∃ w1, w1 = (w.alloc (.cells #[.int .u32 (d : Int)] 91)).alloc (.cells #[.slice none 0 0] 22) := ⟨_, rfl⟩
  have bL : Bk w1 w.heap.size 91 #[.int .u32 (d : Int)] := by rw [hw1]; exact (Bk.new w _ _).alloc _
  have bQ : Bk w1 (w.heap.size + 1) 22 #[.slice none 0 0] := by
    have := Bk.new (w.alloc (.cells #[.int .u32 (d : Int)] 91)) 22 #[.slice none 0 0]
    rw [hw1]; simpa using this
  have hup1 : Up w w1 := by rw [hw1]; exact ((Up.refl w).alloc _).alloc _
  have Hsz1 : Hid (w1.heap.size = w.heap.size + 1 + 1) := by show _ = _; rw [hw1]; simp
  have Hw1 := hide hw1
  clear hw1
  refine wpIn_wide.2 ?_
  go_wp2_with (at_make; rw [← Hw1.out]; refine wp_mk rfl _ _ rfl w1.heap.size n _ _ _ _ rfl rfl rfl rfl (by omega) (Nat.le_refl _) ?_; intro w0 hown0 hup0 hlt0; rw [Hsz1.out] at hown0; rw [Hsz1.out]; have bL0 := bL.up hup0; have bQ0 := bQ.up hup0; have hsz0 : w.heap.size + 1 + 1 < w0.heap.size := (by have := Hsz1.out; omega); have f1 := bQ0.cell (i := 0) rfl; have f2 := bQ0.frozen 0; have f3 := bL0.cell (i := 0) rfl)
  obtain ⟨w2, hw2⟩ : ∃ w2, w2 = (w0.setCell ⟨w.heap.size + 1, 0, none⟩ (.slice (some ⟨w.heap.size + 1 + 1, 0, none⟩) n n)).alloc (.cells #[.int .u64 0] 98) := ⟨_, rfl⟩
  have hs2 : w2.heap.size = w0.heap.size + 1 := by rw [hw2]; simp
  have bL2 : Bk w2 w.heap.size 91 #[.int .u32 (d : Int)] := by rw [hw2]; exact (bL0.far (p := ⟨w.heap.size + 1, 0, none⟩) (by simp) _).alloc _
  have bQ2 : Bk w2 (w.heap.size + 1) 22 #[.slice (some ⟨w.heap.size + 1 + 1, 0, none⟩) n n] := by rw [hw2]; exact (bQ0.setCell 0 _).alloc _
  have bC2 : Bk w2 w0.heap.size 98 #[.int .u64 0] := by
    have := Bk.new (w0.setCell ⟨w.heap.size + 1, 0, none⟩ (.slice (some ⟨w.heap.size + 1 + 1, 0, none⟩) n n)) 98 #[.int .u64 0]
    rw [hw2]; simpa using this
  have own2 : Own w2 (w.heap.size + 1 + 1) (.slice (some ⟨w.heap.size + 1 + 1, 0, none⟩) n n) n (List.replicate n 0) := by
    rw [hw2]; exact (hown0.far (g := w.heap.size + 1) (by simp [Value.ownBlock]) _).up ((Up.refl _).alloc _)
  have hup2 : Up w w2 := by rw [hw2]; exact ((hup1.trans hup0).setCell (p := ⟨w.heap.size + 1, 0, none⟩) (by simp) _).alloc _
  rw [← hw2]
  clear hw2 bL bQ hup1 hup0 hlt0 hown0 bL0 bQ0 f1 f2 f3 Hw1 Hsz1
  have hBA := (callsIn_wide (n := 4)).1 (back_in Fence.wide 4 trivial rfl A n c w2)
  refine hBA.mono ?_
  rintro e w' ⟨rfl, hw'⟩
  obtain ⟨w3, hw3⟩ : ∃ w3, w3 = w2.alloc (.cells #[.slice A n c] 22) := ⟨_, rfl⟩
  have hs3 : w3.heap.size = w0.heap.size + 2 := by rw [hw3]; simp [hs2]
  have bL3 := bL2.alloc (.cells #[.slice A n c] 22)
  have bQ3 := bQ2.alloc (.cells #[.slice A n c] 22)
  have bC3 := bC2.alloc (.cells #[.slice A n c] 22)
  have bB3 : Bk w3 (w0.heap.size + 1) 22 #[.slice A n c] := by rw [hw3, ← hs2]; exact Bk.new _ _ _
  have own3 := own2.up ((Up.refl w2).alloc (.cells #[.slice A n c] 22))
  have hup3 := hup2.alloc (.cells #[.slice A n c] 22)
  rw [← hw3] at bL3 bQ3 bC3 own3 hup3
  have hww : w' = w3 := hw'.trans hw3.symm
  subst hww
  rw [hs2]
  have HS3 := hide hs3
  have HS2 := hide hs2
  clear hw' hw3 hBA hs2 hs3 bL2 bQ2 bC2 own2 hup2
  go_wp2
  refine wpIn_wide (n := 5) |>.1 ?_
  have hA : 0 < n → ∀ ad, A = some ad → ad.block < w.heap.size := fun h ad e => by
    obtain ⟨ad', e', hb, _⟩ := hl.at_ (k := 0) (by rw [← Hn.out]; exact h)
    rw [e] at e'
    cases e'
    exact hb
  refine wpIn_rangeFunc_ownG rfl (by omega) (gf := 124) (lb := #[.pointer (some ⟨w0.heap.size + 1, 0, none⟩)]) rfl trivial (enters_of Tryz.func124 (by kernel_rfl) rfl)
    (back_stops Fence.wide (5 - 1) trivial rfl (by omega) (w0.heap.size + 1) w.heap.size 1000000000 A c n (lim a) (dig_getD (dig_lim a)) (by omega) Hn w' bB3.lt (bB3.cell (i := 0) rfl) (hl.up hup3) hA)
    (fun h k => ⟨h.1.trans k.1, fun v hv => k.2 v (h.2 v hv)⟩)
    (fun W l o o' hle h h1 h2 => ⟨belowK_b (w := w') hup3.size W l o o' hle h h1 h2, fun v hv => (World.cell?_of_block (w := W) ((grownBy_putObj' W l o').block _ (World.block_lt_of_cell? W _ hv) (fun e => by have h3 : w0.heap.size + 1 = l := Option.some.inj e; have := HS3.out; omega))).trans hv⟩)
    (Below.refl _ _) (fun _ => rfl)
    (fun pre W => ∃ (r : Nat) (L : List Nat), Bk W w0.heap.size 98 #[.int .u64 (r : Int)] ∧ Bk W w.heap.size 91 #[.int .u32 (d : Int)] ∧ Bk W (w.heap.size + 1) 22 #[.slice (some ⟨w.heap.size + 1 + 1, 0, none⟩) n n] ∧ Own W (w.heap.size + 1 + 1) (.slice (some ⟨w.heap.size + 1 + 1, 0, none⟩) n n) n L ∧ Dig L ∧ r < d ∧
      (pre.map (fun y => y.1) = raws (lim a) n pre.length → pre.length ≤ n → val ((lim a).drop (n - pre.length)) = val (L.drop (n - pre.length)) * d + r) ∧ Up w W)
    (fun _ _ _ => False)
    (fun s X Y row hs hg hr => by
      obtain ⟨r, L, h1, h2, h3, h4, h5, h6, h7, h8⟩ := hs
      have hne : ∀ g, g < w'.heap.size → some g ≠ row := fun g hgl e => by have := (hr g e.symm).1; omega
      have hz := HS3.out
      exact ⟨r, L, h1.grown hg (hne _ (by omega)), h2.grown hg (hne _ (by omega)), h3.grown hg (hne _ (by omega)), h4.grown hg (hne (w.heap.size + 1 + 1) (by omega)), h5, h6, h7, h8.grown hg (fun k e => by have := (hr k e).1; omega)⟩)
    (fun _ _ _ _ _ hs _ _ => hs)
    ⟨0, _, bC3, bL3, bQ3, own3, dig_replicate n, hd0, fun _ _ => by rw [List.drop_eq_nil_of_le (by rw [← Hn.out]; simp), List.drop_eq_nil_of_le (by simp)]; simp [val], hup3⟩
    (fun y => { tmps := #[.slice A n c, .int .u32 (d : Int), undef, .pointer (some ⟨w.heap.size, 0, none⟩), .pointer (some ⟨w.heap.size + 1, 0, none⟩), .slice none 0 0, .pointer (some ⟨w0.heap.size, 0, none⟩), .int .i64 (y.1.1 : Nat), .int .u32 (y.1.2 : Nat), undef, .slice A n c, .int .i64 (n : Int), .slice (some ⟨w.heap.size + 1 + 1, 0, none⟩) n n, .slice A n c, .func (.func 124) #[] #[.pointer (some ⟨w0.heap.size + 1, 0, none⟩)], .int .i64 (y.1.1 : Nat), .int .u32 (y.1.2 : Nat), undef, undef, undef, undef, undef, undef, undef, undef, undef, undef, undef, undef, undef, undef, undef, undef, undef, undef, undef, undef, undef], defers := [] }) ?assign ?body ?done ?stop
  case assign =>
    intro l y W K hK
    gi_wp2
    exact hK
  case body =>
    rintro l pre ⟨⟨i, x⟩, hi, hx⟩ W ⟨r, L, b1, b2, b3, own, hdL, hr, hm, hup⟩ hlen
    dsimp only at hi hx ⊢
    have HM := hide hm
    have HDL := hide hdL
    have HO := hide own
    have fL : W.cell? ⟨w.heap.size, 0, none⟩ = some (.int .u32 (d : Int)) := b2.cell (i := 0) rfl
    have fQ : W.cell? ⟨w.heap.size + 1, 0, none⟩ = some (.slice (some ⟨w.heap.size + 1 + 1, 0, none⟩) n n) := b3.cell (i := 0) rfl
    have fC : W.cell? ⟨w0.heap.size, 0, none⟩ = some (.int .u64 (r : Int)) := b1.cell (i := 0) rfl
    have fCf := b1.frozen 0
    have fO := own.cell (j := i) hi
    have fOf := own.frozen i
    have Hup := hide hup
    have HLen := hide hlen
    clear hm hdL own hup hlen HS2 bL3 bQ3 bC3 bB3 own3 hup3
    gi_wp2
    obtain ⟨t, Ht⟩ : ∃ t : Nat, (t : Int) = (r : Int) * 1000000000 + x := ⟨r * 1000000000 + x, by omega⟩
    have HT := hide Ht
    have htB : t < 1000000000000000000 := by omega
    have hqq := short_q (x := x) hr hx
    have htt : t = r * 1000000000 + x := by omega
    rw [← htt] at hqq
    have hq0 : (0 : Int) ≤ (t : Int) / (d : Int) := by rw [← Int.natCast_ediv]; exact Int.natCast_nonneg _
    have hq1 : (t : Int) / (d : Int) < 1000000000 := by rw [← Int.natCast_ediv]; have := hqq.1; omega
    have hQQ := hide hqq
    rw [← Ht]
    clear Ht htt hqq
    have hd1 : IntKind.u64.wrap (d : Int) = d := by rw [IntKind.wrap_u64]; omega
    have hd2 : ((d : Int) = 0) = False := by simp; omega
    have hq2 : IntKind.u64.wrap ((t : Int) / (d : Int)) = (t : Int) / (d : Int) := by rw [IntKind.wrap_u64]; omega
    have hq3 : IntKind.u32.wrap ((t : Int) / (d : Int)) = (t : Int) / (d : Int) := by rw [IntKind.wrap_u32]; omega
    have hq4 : IntKind.u64.wrap ((t : Int) % (d : Int)) = (t : Int) % (d : Int) := by
      rw [← Int.natCast_emod, IntKind.wrap_u64]
      have := hQQ.out.2
      omega
    have Hd1 := hide hd1
    have Hd2 := hide hd2
    have Hd3 : Hid ((d = 0) = False) := by show (d = 0) = False; simp; omega
    have Hq2 := hide hq2
    have Hq3 := hide hq3
    have Hq4 := hide hq4
    clear hd1 hd2 hq2 hq3 hq4
    refine region_inRound (by kernel_rfl) (by kernel_rfl) ?_
    simp only [List.size_toArray, List.length_cons, List.length_nil, Nat.reduceAdd, Array.replicate_succ, Array.replicate_zero]
    repeat' (first
      | (refine wpAnyIn_done ?_ ?_ _; (· decide +kernel))
      | (refine wpAnyIn_take (i := 1) (v := ?_) rfl rfl ?_ ?_ ?_ (fun _ _ _ h => h) ⟨Or.inl ⟨?_, ?_⟩, fun _ => rfl⟩ ?_; rotate_left; (· kernel_rfl); (· decide +kernel); (· decide +kernel); (· rfl); (· (intro w; go_simp; (try simp only [Hd1.out, Hd2.out, Hd3.out, Hq2.out, Hq3.out, Hq4.out, ↓reduceIte]); (try with_reducible rfl))))
      | (refine wpAnyIn_take (i := 2) (v := ?_) rfl rfl ?_ ?_ ?_ (fun _ _ _ h => h) ⟨Or.inl ⟨?_, ?_⟩, fun _ => rfl⟩ ?_; rotate_left; (· kernel_rfl); (· decide +kernel); (· decide +kernel); (· rfl); (· (intro w; go_simp; (try simp only [Hd1.out, Hd2.out, Hd3.out, Hq2.out, Hq3.out, Hq4.out, ↓reduceIte]); (try with_reducible rfl))))
      | (refine wpAnyIn_take (i := 4) (v := ?_) rfl rfl ?_ ?_ ?_ (fun _ _ _ h => h) ⟨Or.inl ⟨?_, ?_⟩, fun _ => rfl⟩ ?_; rotate_left; (· kernel_rfl); (· decide +kernel); (· decide +kernel); (· rfl); (· (intro w; go_simp; (try simp only [Hd1.out, Hd2.out, Hd3.out, Hq2.out, Hq3.out, Hq4.out, ↓reduceIte]); (try with_reducible rfl))))
      | (refine wpAnyIn_take (i := 5) (v := ?_) rfl rfl ?_ ?_ ?_ (fun _ _ _ h => h) ⟨Or.inl ⟨?_, ?_⟩, fun _ => rfl⟩ ?_; rotate_left; (· kernel_rfl); (· decide +kernel); (· decide +kernel); (· rfl); (· (intro w; go_simp; (try simp only [Hd1.out, Hd2.out, Hd3.out, Hq2.out, Hq3.out, Hq4.out, ↓reduceIte]); (try with_reducible rfl))))
      | (refine wpAnyIn_take (i := 6) (v := ?_) rfl rfl ?_ ?_ ?_ (fun _ _ _ h => h) ⟨Or.inl ⟨?_, ?_⟩, fun _ => rfl⟩ ?_; rotate_left; (· kernel_rfl); (· decide +kernel); (· decide +kernel); (· rfl); (· (intro w; go_simp; (try simp only [Hd1.out, Hd2.out, Hd3.out, Hq2.out, Hq3.out, Hq4.out, ↓reduceIte]); (try with_reducible rfl))))
      | (refine wpAnyIn_take (i := 7) (v := ?_) rfl rfl ?_ ?_ ?_ (fun _ _ _ h => h) ⟨Or.inl ⟨?_, ?_⟩, fun _ => rfl⟩ ?_; rotate_left; (· kernel_rfl); (· decide +kernel); (· decide +kernel); (· rfl); (· (intro w; go_simp; (try simp only [Hd1.out, Hd2.out, Hd3.out, Hq2.out, Hq3.out, Hq4.out, ↓reduceIte]); (try with_reducible rfl))))
      | (refine wpAnyIn_take (i := 9) (v := ?_) rfl rfl ?_ ?_ ?_ (fun _ _ _ h => h) ⟨Or.inl ⟨?_, ?_⟩, fun _ => rfl⟩ ?_; rotate_left; (· kernel_rfl); (· decide +kernel); (· decide +kernel); (· rfl); (· (intro w; go_simp; (try simp only [Hd1.out, Hd2.out, Hd3.out, Hq2.out, Hq3.out, Hq4.out, ↓reduceIte]); (try with_reducible rfl))))
      | (refine wpAnyIn_take (i := 10) (v := ?_) rfl rfl ?_ ?_ ?_ (fun _ _ _ h => h) ⟨Or.inl ⟨?_, ?_⟩, fun _ => rfl⟩ ?_; rotate_left; (· kernel_rfl); (· decide +kernel); (· decide +kernel); (· rfl); (· (intro w; go_simp; (try simp only [Hd1.out, Hd2.out, Hd3.out, Hq2.out, Hq3.out, Hq4.out, ↓reduceIte]); (try with_reducible rfl))))
      | (refine wpAnyIn_take (i := 11) (v := ?_) rfl rfl ?_ ?_ ?_ (fun _ _ _ h => h) ⟨Or.inl ⟨?_, ?_⟩, fun _ => rfl⟩ ?_; rotate_left; (· kernel_rfl); (· decide +kernel); (· decide +kernel); (· rfl); (· (intro w; go_simp; (try simp only [Hd1.out, Hd2.out, Hd3.out, Hq2.out, Hq3.out, Hq4.out, ↓reduceIte]); (try with_reducible rfl))))
      | (refine wpAnyIn_ready (rs := [0, 3, 8]) ?_ ?_ ?_; (· decide +kernel); (· simp))
      | (refine wpAnyIn_ready (rs := [0, 3]) ?_ ?_ ?_; (· decide +kernel); (· simp))
      | (refine wpAnyIn_ready (rs := [0, 8]) ?_ ?_ ?_; (· decide +kernel); (· simp))
      | (refine wpAnyIn_ready (rs := [3, 8]) ?_ ?_ ?_; (· decide +kernel); (· simp))
      | (refine wpAnyIn_ready (rs := [8, 12]) ?_ ?_ ?_; (· decide +kernel); (· simp))
      | (refine wpAnyIn_ready (rs := [0]) ?_ ?_ ?_; (· decide +kernel); (· simp))
      | (refine wpAnyIn_ready (rs := [3]) ?_ ?_ ?_; (· decide +kernel); (· simp))
      | (refine wpAnyIn_ready (rs := [8]) ?_ ?_ ?_; (· decide +kernel); (· simp))
      | (refine wpAnyIn_ready (rs := [12]) ?_ ?_ ?_; (· decide +kernel); (· simp))
      | (refine wpAnyIn_ready (rs := [13]) ?_ ?_ ?_; (· decide +kernel); (· simp))
      | exact AllReadyIn.nil
      | (refine AllReadyIn.cons rfl (fun K hK => ?_) ?_; (go_simp; (try simp only [Hd1.out, Hd2.out, Hd3.out, Hq2.out, Hq3.out, Hq4.out, ↓reduceIte]); (try go_simp); refine hK _ _ ?_; clear hK K)))
    all_goals
      have eD : (t : Int) / (d : Int) = ((t / d : Nat) : Int) := rfl
      have eM : (t : Int).tmod (d : Int) = ((t % d : Nat) : Int) := rfl
      rw [eD, eM]
      have hsz := hsz0
      refine ⟨(((KeepsOthers.setCell W _ _).trans (KeepsOthers.setCell _ _ _)).trans (KeepsOthers.drew _)).from _, ⟨((((Below.refl w.heap.size W).setCell (p := ⟨w.heap.size + 1 + 1, i, none⟩) (by show w.heap.size ≤ w.heap.size + 1 + 1; omega) _).setCell (p := ⟨w0.heap.size, 0, none⟩) (by show w.heap.size ≤ w0.heap.size; omega) _).drew), fun v hv => ?keepB⟩, t % d, L.set i (t / d), ?s1, ?s2, ?s3, ?s4, ?s5, ?s6, ?s7, ?s8⟩
      case keepB => exact ((World.cell?_setCell_other _ _ _ _ (fun e => by injection e with e1; omega)).trans (World.cell?_setCell_other W _ _ _ (fun e => by injection e with e1; omega))).trans hv
      case s1 => exact (b1.far (p := ⟨w.heap.size + 1 + 1, i, none⟩) (by simp; omega) _).setCell 0 _
      case s2 => exact (b2.far (p := ⟨w.heap.size + 1 + 1, i, none⟩) (by show w.heap.size ≠ w.heap.size + 1 + 1; omega) _).far (p := ⟨w0.heap.size, 0, none⟩) (by simp; omega) _
      case s3 => exact (b3.far (p := ⟨w.heap.size + 1 + 1, i, none⟩) (by simp) _).far (p := ⟨w0.heap.size, 0, none⟩) (by simp; omega) _
      case s4 => exact (((HO.out.set_ i (t / d)).far (g := w0.heap.size) (by simp [Value.ownBlock]; omega) _).up ((Up.refl _).drew))
      case s5 => exact dig_set HDL.out hQQ.out.1
      case s6 => exact hQQ.out.2
      case s7 =>
        intro h1 h2
        obtain ⟨_, h4, h5⟩ := raws_snoc h1
        have h6 := HM.out h4 (by have := HLen.out; omega)
        simp only [List.length_append, List.length_cons, List.length_nil, Nat.zero_add]
        injection h5 with h8 h9
        exact short_step Hn.out HO.out.len HLen.out h8 h9 (by have := HT.out; omega) h6
      case s8 => exact ((Hup.out.setCell (p := ⟨w.heap.size + 1 + 1, i, none⟩) (by simp; omega) _).setCell (p := ⟨w0.heap.size, 0, none⟩) (by simp; omega) _).drew
  case done =>
    rintro D ys W hD hys ⟨r, L, b1, b2, b3, own, hdL, hr, hm, hup⟩ hK
    rename_i Kx hKx
    have hlen : ys.length = n := by have := congrArg List.length hys; rw [raws_len] at this; simpa using this
    have hm2 := hm (by rw [hlen]; exact hys) (by omega)
    rw [hlen, Nat.sub_self, List.drop_zero, List.drop_zero, val_lim] at hm2
    obtain ⟨hq, hr2⟩ := div_end hm2 hr
    have HQ := hide hq
    have HR := hide hr2
    have HDL := hide hdL
    have HLN := hide own.len
    obtain ⟨hlim, _⟩ := own.lim'
    have hD0 : w.heap.size + 1 + 1 < D := by have := HS3.out; omega
    clear hm hys hlen hm2 hq hr2 own hdL bL3 bQ3 bC3 bB3 own3 hup3 HS2 HS3 hA
    show Kx _ _
    refine hKx _ _ ?_
    clear hKx
    have e1 : W.cell? ⟨w.heap.size + 1, 0, none⟩ = some (.slice (some ⟨w.heap.size + 1 + 1, 0, none⟩) n n) := b3.cell (i := 0) rfl
    have e2 : W.cell? ⟨w0.heap.size, 0, none⟩ = some (.int .u64 (r : Int)) := b1.cell (i := 0) rfl
    have f2 := b3.frozen 0
    have hupA : Up W W.drew := (Up.refl W).drew
    have hrB : r < 18446744073709551616 := by omega
    go_wp2_with fail
    rename_i K2 hK2
    refine Code.wp_mono (Q := Exit.then K2 (fun _ _ _ => False)) (fun e a w h => by cases e <;> first | exact h | exact h.elim) ?_
    go_region_with
      (first
        | (go_at_call 131; refine (trim_lim' _ _ _ _ (hlim.up hupA) n (a / d) HLN.out HDL.out HQ.out (by omega) (Nat.le_refl _)).mono ?_; rintro e w3 ⟨⟨n3, rfl, Hn3, hl3, hc3⟩, rfl⟩)
        | (go_at_call 87; refine (split_any r _ hrB).mono ?_; rintro e w3 ⟨A4, n4, c4, rfl, Hn4, hl4, hc4, hnew4, hup4⟩; replace hupA := hupA.trans hup4; have f3 : w3.cell? ⟨w.heap.size + 1, 0, none⟩ = some (.slice (some ⟨w.heap.size + 1 + 1, 0, none⟩) n n) := (b3.up hupA).cell (i := 0) rfl; have f4 := (b3.up hupA).frozen 0))
    all_goals
      show K2 _ _
      refine hK2 _ _ ?_
      have hDl : D < W.heap.size := by
        rcases Nat.lt_or_ge D W.heap.size with h | h
        · exact h
        · rw [Array.getElem?_eq_none h] at hK; cases hK
      have hK3 : (w3.setCell ⟨w.heap.size + 1, 0, none⟩ (.slice (some ⟨w.heap.size + 1 + 1, 0, none⟩) n3 n)).heap[D]? = some (.deferred (some [])) := (Below.heap_setCell w3 ⟨w.heap.size + 1, 0, none⟩ _ D (by show D ≠ w.heap.size + 1; omega)).trans ((hupA.block D hDl).trans hK)
      go_wp2_with fail
      refine ⟨by simp, .inl ⟨_, _, rfl, run_takeDeferred hK3, ?_⟩⟩
      have h0 := ((b3.up hupA).setCell 0 (.slice (some ⟨w.heap.size + 1 + 1, 0, none⟩) n3 n)).cell (i := 0) (v := .slice (some ⟨w.heap.size + 1 + 1, 0, none⟩) n3 n) rfl
      have hq := (World.cell?_of_block (w := w3.setCell ⟨w.heap.size + 1, 0, none⟩ (.slice (some ⟨w.heap.size + 1 + 1, 0, none⟩) n3 n)) ((grownBy_putObj' _ D (.deferred none)).block _ (World.block_lt_of_cell? _ _ h0) (fun e => by have h3 : w.heap.size + 1 = D := Option.some.inj e; omega))).trans h0
      have hl3' : Lim w3 (some ⟨w.heap.size + 1 + 1, 0, none⟩) (lim (a / d)) := by first | exact hl3 | exact hl3.up hup4
      have hl4' : Lim w3 A4 (lim r) := hl4
      have hD4 : NewB (D + 1) A4 := hnew4.mono hDl
      refine ⟨.tuple #[.slice (some ⟨w.heap.size + 1 + 1, 0, none⟩) n3 n, .slice A4 n4 c4], by simp [results, Tryz.results132, go_sem, hq], ?_⟩
      refine ⟨_, n3, n, A4, n4, c4, rfl, Hn3, by rw [← HR.out]; exact Hn4, (hl3'.far (g := w.heap.size + 1) (j := 0) (fun ad e => by cases e; exact Nat.le_refl _) _).grown_ (grownBy_putObj' _ D _) (fun ad e e2 => by cases e; have h3 : w.heap.size + 1 + 1 = D := Option.some.inj e2; omega), ?_, hc3, hc4, fun ad e => by cases e; show w.heap.size ≤ w.heap.size + 1 + 1; omega, hnew4.mono (by have := hup.size; exact this), ?_⟩
      · rw [← HR.out]
        exact (hl4'.far (g := w.heap.size + 1) (j := 0) (hD4.mono (by omega)) _).grown_ (grownBy_putObj' _ D _) (fun ad e e2 => by have h3 : ad.block = D := Option.some.inj e2; have := hD4 ad e; omega)
      · exact ((hup.trans hupA).setCell (p := ⟨w.heap.size + 1, 0, none⟩) (by show w.heap.size ≤ w.heap.size + 1; omega) _).grown (grownBy_putObj' _ D _) (fun k e => by cases e; omega)
  case stop =>
    rintro D c pre W _ _ h _
    exact h.elim
end Go.Proofs.YtldifgfpecicnaaGreatDoor
/- The program's commonWord and divide. -/
namespace Go.Proofs.YtldifgfpecicnaaGreatDoor
open Go.RowKit

set_option maxRecDepth 100000 in
set_option maxHeartbeats 1000000 in
theorem word_any (a b : Nat) (w : World) (ha : a ≤ 18446744073709551615) (hb : b ≤ 18446744073709551615) :
    Calls Tryz.prog 117 #[.int .u64 a, .int .u64 b] w fun e w' => e = .returned (.int .u64 (Nat.gcd a b : Nat)) ∧ ∃ q, w' = w.drewN q := by
  go_enter Tryz.func117, Tryz.ntmps117
  go_wp2
  go_loopw [0, 1] (fun av bv wr => ∃ p g q : Nat, av = .int .u64 p ∧ bv = .int .u64 g ∧ p ≤ 18446744073709551615 ∧ g ≤ 18446744073709551615 ∧ Nat.gcd p g = Nat.gcd a b ∧ wr = w.drewN q) (fun _ bv _ => (intOf bv).toNat)
  case atStart => exact ⟨a, b, 0, rfl, rfl, ha, hb, rfl, rfl⟩
  case round =>
    obtain ⟨p, g, q, rfl, rfl, hp, hg, hgcd, rfl⟩ := hrel
    have HG := hide hgcd
    clear hgcd
    by_cases hgo : 0 < g
    · have hm : (p : Int).tmod (g : Int) = ((p % g : Nat) : Int) := rfl
      have HM := hide (Nat.mod_lt p hgo)
      have HR : Hid (Nat.gcd g (p % g) = Nat.gcd a b) := by show _ = _; rw [← HG.out, Nat.gcd_comm p, Nat.gcd_rec g p, Nat.gcd_comm]
      have hz : ((g : Int) == 0) = false := by rw [beq_eq_false_iff_ne]; omega
      obtain ⟨r, hr⟩ : ∃ r, r = p % g := ⟨_, rfl⟩
      rw [← hr] at hm HM HR
      have hrb : r ≤ 18446744073709551615 := by have := HM.out; omega
      clear hr
      go_wp2
      go_quiet (fail)
      go_wp2
      go_roundw
      case rel => exact ⟨g, r, _, rfl, by first | rfl | go_num, hg, hrb, HR.out, by rw [World.drewN_drewN]⟩
      case measure => have := HM.out; simp [intOf]; omega
    · obtain rfl : g = 0 := by omega
      have HE : Hid (p = Nat.gcd a b) := by show _ = _; rw [← HG.out, Nat.gcd_zero_right]
      go_wp2
      go_ret
      exact ⟨by rw [← HE.out]; rfl, _, rfl⟩

/-- What is asked of long. -/
def LongSaid : Prop := ∀ (A B : Option Addr) (ca cb a b n m : Nat) (w : World), Lim w A (lim a) → Lim w B (lim b) → Hid (n = (lim a).length) → Hid (m = (lim b).length) → n ≤ 1000 → 2 ≤ m → m ≤ n → b ≤ a → n ≤ ca → m ≤ cb →
  Calls Tryz.prog 133 #[.slice A n ca, .slice B m cb] w (RetLim2 w (a / b) (a % b))
theorem getD_one {b : Nat} (h : (lim b).length = 1) : (lim b).getD 0 0 = b := by
  have h2 := val_lim b
  match hl : lim b, h with
  | [x], _ => rw [hl] at h2; simp [val] at h2; simpa using h2

set_option maxRecDepth 100000 in
set_option maxHeartbeats 2000000 in
theorem divide_any (A B : Option Addr) (ca cb a b : Nat) (w : World) (hA : Lim w A (lim a)) (hB : Lim w B (lim b)) (n m : Nat) (Hn : Hid (n = (lim a).length)) (Hm : Hid (m = (lim b).length)) (hn : n ≤ 1000) (hm : m ≤ 1000) (hca : n ≤ ca) (hcb : m ≤ cb) (hb0 : 0 < b) (HL : 2 ≤ m → LongSaid) :
    Calls Tryz.prog 107 #[.slice A n ca, .slice B m cb] w (RetLim2 w (a / b) (a % b)) := by
  have hm0 : 0 < m := by rw [Hm.out]; exact Nat.pos_of_ne_zero fun e => by rw [lim_len_zero] at e; omega
  rcases Nat.lt_or_ge a b with hlt | hge
  · have hc0 := cmpN_lt hlt
    have HQ := hide (Nat.div_eq_of_lt hlt)
    have HR := hide (Nat.mod_eq_of_lt hlt)
    clear hlt
    go_enter Tryz.func107, Tryz.ntmps107
    go_wp2_with fail
    refine (compare_any A B ca cb a b _ hA hB n m Hn Hm (by omega) (by omega)).mono ?_
    rintro e w' ⟨rfl, q, rfl⟩
    rw [hc0]
    clear hc0
    have hup0 : Up w (w.drewN q) := (Up.refl w).drewN q
    go_wp2_with fail
    refine (clone_any A ca n (lim a) _ (hA.up hup0) Hn (by omega)).mono ?_
    rintro e w1 ⟨v1, n1, rfl, Hn1, hown1, hup1⟩
    obtain ⟨A1, c1, rfl, hc1, hl1, hnew1⟩ := hown1.lim
    go_wp2
    go_ret2
    refine ⟨none, 0, 0, A1, n1, c1, rfl, ?_, ?_, by rw [HQ.out, lim_zero]; exact Lim.nil _ _, by rw [HR.out]; exact hl1, Nat.le_refl _, hc1, NewB.none_ _, hnew1, hup0.trans hup1⟩
    · show _ = _; rw [HQ.out, lim_zero]; rfl
    · rw [HR.out]; exact Hn1
  · have hc0 : ¬ cmpN a b < 0 := by unfold cmpN; rw [if_neg (by omega)]; split <;> omega
    obtain ⟨z, hz⟩ : ∃ z, z = cmpN a b := ⟨_, rfl⟩
    rw [← hz] at hc0
    have HZ := hide hz
    have HGE := hide hge
    clear hge hz
    by_cases hm1 : m = 1
    · subst hm1
      have Hb := hide (getD_one Hm.out.symm)
      have hbB : b < 1000000000 := by rw [← Hb.out]; exact dig_getD (dig_lim b) 0
      obtain ⟨bd, rfl, hbb, hcell⟩ := hB.at_ (k := 0) (by rw [← Hm.out]; omega)
      rw [Hb.out, show bd.add 0 = bd by simp [Addr.add]] at hcell
      go_enter Tryz.func107, Tryz.ntmps107
      go_wp2_with fail
      refine (compare_any A (some bd) ca cb a b _ hA hB n 1 Hn Hm (by omega) (by omega)).mono ?_
      rintro e w' ⟨rfl, q, rfl⟩
      rw [← HZ.out]
      have hup0 : Up w (w.drewN q) := (Up.refl w).drewN q
      go_wp2_with fail
      refine (short_any A ca n a b _ (hA.up hup0) Hn (by omega) hb0 hbB).mono ?_
      rintro e w1 ⟨A1, n1, c1, A2, n2, c2, rfl, Hn1, Hn2, hl1, hl2, hc1, hc2, hnew1, hnew2, hup1⟩
      go_wp2
      go_ret2
      exact ⟨A1, n1, c1, A2, n2, c2, rfl, Hn1, Hn2, hl1, hl2, hc1, hc2, hnew1, hnew2, hup0.trans hup1⟩
    · have hmb : ((m : Int) == 1) = false := by rw [beq_eq_false_iff_ne]; omega
      go_enter Tryz.func107, Tryz.ntmps107
      go_wp2_with fail
      refine (compare_any A B ca cb a b _ hA hB n m Hn Hm (by omega) (by omega)).mono ?_
      rintro e w' ⟨rfl, q, rfl⟩
      rw [← HZ.out]
      have hup0 : Up w (w.drewN q) := (Up.refl w).drewN q
      go_wp2_with fail
      refine (HL (by omega) A B ca cb a b n m _ (hA.up hup0) (hB.up hup0) Hn Hm (by omega) (by omega) (by rw [Hn.out, Hm.out]; exact lim_len_mono HGE.out) HGE.out hca hcb).mono ?_
      rintro e w1 ⟨A1, n1, c1, A2, n2, c2, rfl, Hn1, Hn2, hl1, hl2, hc1, hc2, hnew1, hnew2, hup1⟩
      go_wp2
      go_ret2
      exact ⟨A1, n1, c1, A2, n2, c2, rfl, Hn1, Hn2, hl1, hl2, hc1, hc2, hnew1, hnew2, hup0.trans hup1⟩
end Go.Proofs.YtldifgfpecicnaaGreatDoor
/- The program's common and Gcd. -/
namespace Go.Proofs.YtldifgfpecicnaaGreatDoor
open Go.RowKit

theorem small_two {x n : Nat} (Hn : Hid (n = (lim x).length)) (h : n ≤ 2) : x ≤ 18446744073709551615 := by
  have h1 := Hn.out
  have h2 : x < bas 2 := lim_len_le.1 (by omega)
  have h3 : bas 2 = 1000000000000000000 := rfl
  omega

set_option maxRecDepth 100000 in
set_option maxHeartbeats 4000000 in
theorem common_any (A B : Option Addr) (ca cb a b : Nat) (w : World) (hA : Lim w A (lim a)) (hB : Lim w B (lim b)) (n m : Nat) (Hn : Hid (n = (lim a).length)) (Hm : Hid (m = (lim b).length)) (hn : n ≤ 1000) (hm : m ≤ 1000) (HL : LongSaid ∨ (n ≤ 2 ∧ m ≤ 2)) :
    Calls Tryz.prog 89 #[.slice A n ca, .slice B m cb] w (RetLim w (Nat.gcd a b)) := by
  go_enter Tryz.func89, Tryz.ntmps89
  go_wp2_with fail
  refine (clone_any A ca n (lim a) _ hA Hn (by omega)).mono ?_
  rintro e w1 ⟨v1, n1, rfl, Hn1, hown1, hup1⟩
  obtain ⟨A1, c1, rfl, hc1, hl1, hnew1⟩ := hown1.lim
  obtain rfl : n1 = n := Hn1.out.trans Hn.out.symm
  go_wp2_with fail
  refine (clone_any B cb m (lim b) _ (hB.up hup1) Hm (by omega)).mono ?_
  rintro e w2 ⟨v2, m1, rfl, Hm1, hown2, hup2⟩
  obtain ⟨A2, c2, rfl, hc2, hl2, hnew2⟩ := hown2.lim
  obtain rfl : m1 = m := Hm1.out.trans Hm.out.symm
  have HL2 := hide HL
  have HN := hide hnew1
  have hl1' := hl1.up hup2
  have HN2 : NewB w.heap.size A2 := hnew2.mono hup1.size
  have hup3 := hup1.trans hup2
  clear HL hown1 hown2 hl1 hup1 hup2 hnew2
  go_wp2
  go_loopg [0, 1] b (fun g xv yv wr => ∃ (p l k c d : Nat) (X Y : Option Addr), xv = .slice X l c ∧ yv = .slice Y k d ∧ l ≤ c ∧ k ≤ d ∧ l ≤ 1000 ∧ k ≤ 1000 ∧ l = (lim p).length ∧ k = (lim g).length ∧ Lim wr X (lim p) ∧ Lim wr Y (lim g) ∧ Nat.gcd p g = Nat.gcd a b ∧ NewB w.heap.size X ∧ NewB w.heap.size Y ∧ Up w wr ∧ Hid (LongSaid ∨ (l ≤ 2 ∧ k ≤ 2)))
  case atStart => exact ⟨a, n1, m1, c1, c2, A1, A2, rfl, rfl, hc1, hc2, hn, hm, Hn.out, Hm.out, hl1', hl2, rfl, HN.out, HN2, hup3, HL2⟩
  case round =>
    clear hl1' hl2 HN HN2 hup3 HL2 hnew1
    obtain ⟨p, l, k, c, d, X, Y, rfl, rfl, hlc, hkd, hl1000, hk1000, hl', hk', hlim1, hlim2, hg, hnX, hnY, hup, HLr⟩ := hrel
    have HLp := hide hl'
    have HK := hide hk'
    have HG := hide hg
    clear hl' hk' hg
    by_cases hgo : 0 < k
    · have hg0 : 0 < gk := by
        rcases Nat.eq_zero_or_pos gk with h | h
        · have := HK.out; rw [h, lim_zero] at this; simp at this; omega
        · exact h
      by_cases hw1 : l ≤ 2 ∧ k ≤ 2
      · obtain ⟨hw1, hw2⟩ := hw1
        have hp64 := small_two HLp hw1
        have hg64 := small_two HK hw2
        have HGB : Hid (Nat.gcd p gk < 18446744073709551616) := by
          show _ < _
          have := Nat.gcd_le_right p hg0
          omega
        go_wp2_with fail
        refine (join_any X c l p _ hlim1 HLp (by omega)).mono ?_
        rintro e w3 ⟨rfl, hup3⟩
        go_wp2_with fail
        refine (join_any Y d k gk _ (hlim2.up hup3) HK (by omega)).mono ?_
        rintro e w4 ⟨rfl, hup4⟩
        go_wp2_with fail
        refine (word_any p gk _ hp64 hg64).mono ?_
        rintro e w5 ⟨rfl, q, rfl⟩
        go_wp2_with fail
        refine (split_any (Nat.gcd p gk) _ HGB.out).mono ?_
        rintro e w6 ⟨A6, n6, c6, rfl, Hn6, hl6, hc6, hnew6, hup6⟩
        go_wp2
        go_ret
        have hup7 : Up w (w4.drewN q) := ((hup.trans hup3).trans hup4).drewN q
        exact ⟨A6, n6, c6, rfl, by rw [← HG.out]; exact Hn6, by rw [← HG.out]; exact hl6, hc6, hnew6.mono hup7.size, hup7.trans hup6⟩
      · have HLong : Hid LongSaid := by rcases HLr.out with h | h <;> first | exact h | exact (hw1 h).elim
        have HM := hide (Nat.mod_lt p hg0)
        have hw3 : ¬ l ≤ 2 ∨ (l ≤ 2 ∧ ¬ k ≤ 2) := by omega
        clear hw1
        rcases hw3 with hw1 | ⟨hw1, hw2⟩
        all_goals
          go_wp2_with fail
          refine (divide_any X Y c d p gk _ hlim1 hlim2 l k HLp HK hl1000 hk1000 hlc hkd hg0 (fun _ => HLong.out)).mono ?_
          rintro e w3 ⟨A3, n3, c3, A4, n4, c4, rfl, Hn3, Hn4, hl3, hl4, hc3, hc4, hnew3, hnew4, hup3⟩
          go_wp2
          go_roundg (p % gk)
          case measure => exact HM.out
          case rel =>
            refine ⟨gk, k, n4, d, c4, Y, A4, rfl, rfl, hkd, hc4, hk1000, ?_, HK.out, Hn4.out, hlim2.up hup3, hl4, ?_, hnY, hnew4.mono hup.size, hup.trans hup3, .inl HLong.out⟩
            · have h1 := lim_len_mono (Nat.le_of_lt HM.out)
              have h2 := Hn4.out
              have h3 := HK.out
              omega
            · rw [← HG.out, Nat.gcd_comm gk, Nat.gcd_comm p, Nat.gcd_rec gk p]
    · obtain rfl : k = 0 := by omega
      have hg0 : gk = 0 := by
        have := HK.out.symm; rw [lim_len_zero] at this; exact this
      have HE : Hid (p = Nat.gcd a b) := by show _ = _; rw [← HG.out, hg0, Nat.gcd_zero_right]
      clear hg0
      go_wp2
      go_ret
      exact ⟨X, l, c, rfl, by rw [← HE.out]; exact HLp, by rw [← HE.out]; exact hlim1, hlc, hnX, hup⟩

theorem gcd_top {x y : Int} (hx : x.natAbs < top300) (hy : y.natAbs < top300) : Nat.gcd x.natAbs y.natAbs < top300 := by
  rcases Nat.eq_zero_or_pos y.natAbs with h | h
  · rw [h, Nat.gcd_zero_right]; exact hx
  · exact Nat.lt_of_le_of_lt (Nat.gcd_le_right _ h) hy
set_option maxRecDepth 100000 in
set_option maxHeartbeats 4000000 in
theorem gcdI_any (B B' : Nat) (v v' : Value) (x y : Int) (w : World) (hv : IsInt B w v x) (hv' : IsInt B' w v' y) (hx : x.natAbs < top300) (hy : y.natAbs < top300) (HL : LongSaid ∨ (x.natAbs < 1000000000000000000 ∧ y.natAbs < 1000000000000000000)) :
    Calls Tryz.prog 54 #[v, v'] w fun e w' => ∃ v, e = .returned (.tuple #[v, .int .i64 0]) ∧ IsInt w.heap.size w' v (Nat.gcd x.natAbs y.natAbs : Nat) ∧ Up w w' := by
  obtain ⟨s, A, n, c, rfl, Hs, Hn, hl, hc, hN⟩ := hv
  obtain ⟨t, C, m, d, rfl, Ht, Hm, hm, hd, hN'⟩ := hv'
  obtain ⟨w0, hw0⟩ : ∃ w0, w0 = (((w.alloc (.cells #[.bool s, .slice A n c] 24)).alloc (.cells #[.bool t, .slice C m d] 24)).alloc (.cells #[.bool false, .slice none 0 0] 24)) := ⟨_, rfl⟩
  have hb1 : Bk w0 (w.heap.size) 24 #[.bool s, .slice A n c] := by
    have := ((Bk.new w 24 #[.bool s, .slice A n c]).alloc (.cells #[.bool t, .slice C m d] 24)).alloc (.cells #[.bool false, .slice none 0 0] 24)
    rw [hw0]; simpa using this
  have hb2 : Bk w0 (w.heap.size + 1) 24 #[.bool t, .slice C m d] := by
    have := (Bk.new (w.alloc (.cells #[.bool s, .slice A n c] 24)) 24 #[.bool t, .slice C m d]).alloc (.cells #[.bool false, .slice none 0 0] 24)
    rw [hw0]; simpa using this
  have hb3 : Bk w0 (w.heap.size + 1 + 1) 24 #[.bool false, .slice none 0 0] := by
    have := Bk.new ((w.alloc (.cells #[.bool s, .slice A n c] 24)).alloc (.cells #[.bool t, .slice C m d] 24)) 24 #[.bool false, .slice none 0 0]
    rw [hw0]; simpa using this
  have hup0 : Up w w0 := by rw [hw0]; exact (((Up.refl w).alloc _).alloc _).alloc _
  have hsz0 : w.heap.size + 3 ≤ w0.heap.size := by rw [hw0]; simp
  have Hw0 := hide hw0
  clear hw0
  have e1a := hb1.cell (i := 0) rfl
  have e1b := hb1.cell (i := 1) rfl
  have e2a := hb2.cell (i := 0) rfl
  have e2b := hb2.cell (i := 1) rfl
  have e3a := hb3.cell (i := 0) rfl
  have e3b := hb3.cell (i := 1) rfl
  have hn34 : n ≤ 34 := by rw [Hn.out]; exact len_of_top hx
  have hm34 : m ≤ 34 := by rw [Hm.out]; exact len_of_top hy
  have HL2 : Hid (LongSaid ∨ (n ≤ 2 ∧ m ≤ 2)) := by
    rcases HL with h | ⟨h1, h2⟩
    · exact .inl h
    · have h3 : bas 2 = 1000000000000000000 := rfl
      exact .inr ⟨by rw [Hn.out, lim_len_le]; omega, by rw [Hm.out, lim_len_le]; omega⟩
  have HGT := hide (gcd_top hx hy)
  clear HL
  go_enter Tryz.func54, Tryz.ntmps54
  go_wp2_with fail
  rw [← Hw0.out]
  refine (both_any B B' _ _ x y w0 ⟨s, A, n, c, rfl, Hs, Hn, hl.up hup0, hc, hN⟩ ⟨t, C, m, d, rfl, Ht, Hm, hm.up hup0, hd, hN'⟩ hx hy).mono ?_
  rintro e w1 ⟨rfl, hup1⟩
  have g1 := hup1.keep e1a
  have g2 := hup1.keep e1b
  have g3 := hup1.keep e2a
  have g4 := hup1.keep e2b
  go_wp2_with fail
  refine (common_any A C c d x.natAbs y.natAbs _ (hl.up (hup0.trans hup1)) (hm.up (hup0.trans hup1)) n m Hn Hm (by omega) (by omega) HL2.out).mono ?_
  rintro e w2 ⟨A1, n1, c1, rfl, Hn1, hl1, hc1, hnew1, hup2⟩
  have HGL : Hid (n1 ≤ 34) := by show _ ≤ _; rw [Hn1.out]; exact len_of_top HGT.out
  go_wp2_with fail
  refine (signedI (w.heap.size + 1 + 1 + 1) false A1 c1 n1 _ _ hl1 Hn1 (by have := HGL.out; omega) hc1 (hnew1.mono (by have := hup1.size; omega))).mono ?_
  rintro e w3 ⟨⟨v3, rfl, hv3⟩, hup3⟩
  rw [show sgn false (Nat.gcd x.natAbs y.natAbs) = ((Nat.gcd x.natAbs y.natAbs : Nat) : Int) from rfl] at hv3
  obtain ⟨s2, A2, n2, c2, rfl, Hs2, Hn2, hl2, hc2, hnew2⟩ := hv3
  have hb4 := ((hb3.up hup1).up hup2).up hup3
  have f1 := hb4.cell (i := 0) rfl
  have f2 := hb4.cell (i := 1) rfl
  have f3 := hb4.frozen 0
  have f4 := hb4.frozen 1
  have hq := hb4.two (.bool s2) (.slice A2 n2 c2)
  go_wp2
  refine bodyPost_ret (v := .tuple #[.agg #[.bool s2, .slice A2 n2 c2], .int .i64 0]) (by simp [results, Tryz.results54, go_sem, hq.1, hq.2]) rfl ⟨_, rfl, ⟨s2, A2, n2, c2, rfl, Hs2, Hn2, hl2.two hnew2 _ _, hc2, hnew2.mono (by omega)⟩, (((hup0.trans hup1).trans hup2).trans hup3).two (by omega) _ _⟩

end Go.Proofs.YtldifgfpecicnaaGreatDoor
/- The program's Div. -/
namespace Go.Proofs.YtldifgfpecicnaaGreatDoor
open Go.RowKit

theorem cell_far2 {W : World} {g g' i : Nat} {v : Value} (hne : g ≠ g') (h : W.cell? ⟨g, i, none⟩ = some v) (x y : Value) : ((W.setCell ⟨g', 0, none⟩ x).setCell ⟨g', 1, none⟩ y).cell? ⟨g, i, none⟩ = some v :=
  ((World.cell?_setCell_other _ _ _ _ (fun e => hne (congrArg Addr.block e).symm)).trans (World.cell?_setCell_other _ _ _ _ (fun e => hne (congrArg Addr.block e).symm))).trans h
set_option maxRecDepth 100000 in
set_option maxHeartbeats 4000000 in
theorem divI_zero (B B' : Nat) (v v' : Value) (x y : Int) (w : World) (hv : IsInt B w v x) (hv' : IsInt B' w v' y) (hx : x.natAbs < top300) (hy0 : y = 0) :
    Calls Tryz.prog 70 #[v, v'] w (RetInt2 w 0 0 8) := by
  have hy : y.natAbs < top300 := by rw [hy0]; have := bas_pos 33; simp [top300]; omega
  obtain ⟨s, A, n, c, rfl, Hs, Hn, hl, hc, hN⟩ := hv
  obtain ⟨t, C, m, d, rfl, Ht, Hm, hm, hd, hN'⟩ := hv'
  obtain ⟨w0, hw0⟩ : ∃ w0, w0 = ((((w.alloc (.cells #[.bool s, .slice A n c] 24)).alloc (.cells #[.bool t, .slice C m d] 24)).alloc (.cells #[.bool false, .slice none 0 0] 24)).alloc (.cells #[.bool false, .slice none 0 0] 24)) := ⟨_, rfl⟩
  have hb1 : Bk w0 (w.heap.size) 24 #[.bool s, .slice A n c] := by
    have := (((Bk.new w 24 #[.bool s, .slice A n c]).alloc (.cells #[.bool t, .slice C m d] 24)).alloc (.cells #[.bool false, .slice none 0 0] 24)).alloc (.cells #[.bool false, .slice none 0 0] 24)
    rw [hw0]; simpa using this
  have hb2 : Bk w0 (w.heap.size + 1) 24 #[.bool t, .slice C m d] := by
    have := ((Bk.new (w.alloc (.cells #[.bool s, .slice A n c] 24)) 24 #[.bool t, .slice C m d]).alloc (.cells #[.bool false, .slice none 0 0] 24)).alloc (.cells #[.bool false, .slice none 0 0] 24)
    rw [hw0]; simpa using this
  have hb3 : Bk w0 (w.heap.size + 1 + 1) 24 #[.bool false, .slice none 0 0] := by
    have := (Bk.new ((w.alloc (.cells #[.bool s, .slice A n c] 24)).alloc (.cells #[.bool t, .slice C m d] 24)) 24 #[.bool false, .slice none 0 0]).alloc (.cells #[.bool false, .slice none 0 0] 24)
    rw [hw0]; simpa using this
  have hb4 : Bk w0 (w.heap.size + 1 + 1 + 1) 24 #[.bool false, .slice none 0 0] := by
    have := Bk.new (((w.alloc (.cells #[.bool s, .slice A n c] 24)).alloc (.cells #[.bool t, .slice C m d] 24)).alloc (.cells #[.bool false, .slice none 0 0] 24)) 24 #[.bool false, .slice none 0 0]
    rw [hw0]; simpa using this
  have hup0 : Up w w0 := by rw [hw0]; exact ((((Up.refl w).alloc _).alloc _).alloc _).alloc _
  have hsz0 : w.heap.size + 4 ≤ w0.heap.size := by rw [hw0]; simp
  have Hw0 := hide hw0
  clear hw0
  have e1a := hb1.cell (i := 0) rfl
  have e1b := hb1.cell (i := 1) rfl
  have e2a := hb2.cell (i := 0) rfl
  have e2b := hb2.cell (i := 1) rfl
  have e3a := hb3.cell (i := 0) rfl
  have e3b := hb3.cell (i := 1) rfl
  have e4a := hb4.cell (i := 0) rfl
  have e4b := hb4.cell (i := 1) rfl
  obtain rfl : m = 0 := by rw [Hm.out, hy0]; simp [lim_zero]
  go_enter Tryz.func70, Tryz.ntmps70
  go_wp2_with fail
  rw [← Hw0.out]
  refine (both_any B B' _ _ x y w0 ⟨s, A, n, c, rfl, Hs, Hn, hl.up hup0, hc, hN⟩ ⟨t, C, _, d, rfl, Ht, Hm, hm.up hup0, hd, hN'⟩ hx hy).mono ?_
  rintro e w1 ⟨rfl, hup1⟩
  have g1 := hup1.keep e1a
  have g2 := hup1.keep e1b
  have g3 := hup1.keep e2a
  have g4 := hup1.keep e2b
  have hb5 := hb3.up hup1
  have hb6 := hb4.up hup1
  have f1 := hb5.cell (i := 0) rfl
  have f2 := hb5.cell (i := 1) rfl
  have f3 := hb5.frozen 0
  have f4 := hb5.frozen 1
  have p1 := hb6.cell (i := 0) rfl
  have p2 := hb6.cell (i := 1) rfl
  have p3 := hb6.frozen 0
  have p4 := hb6.frozen 1
  have hQ1 := (hb5.two_bk (.bool false) (.slice none 0 0)).far2 (g' := w.heap.size + 1 + 1 + 1) (by omega) (.bool false) (.slice none 0 0)
  have hQ2 := (hb6.far2 (g' := w.heap.size + 1 + 1) (by omega) (.bool false) (.slice none 0 0)).two_bk (.bool false) (.slice none 0 0)
  have q1 := hQ1.cell (i := 0) rfl
  have q2 := hQ1.cell (i := 1) rfl
  have q3 := hQ2.cell (i := 0) rfl
  have q4 := hQ2.cell (i := 1) rfl
  go_wp2
  refine bodyPost_ret (v := .tuple #[.agg #[.bool false, .slice none 0 0], .agg #[.bool false, .slice none 0 0], .int .i64 8]) (by simp [results, Tryz.results70, go_sem, q1, q2, q3, q4]) rfl ⟨_, _, rfl, IsInt.zero _ _, IsInt.zero _ _, ((hup0.trans hup1).two (by omega) _ _).two (by omega) _ _⟩

set_option maxRecDepth 100000 in
set_option maxHeartbeats 4000000 in
theorem divI_any (B B' : Nat) (v v' : Value) (x y : Int) (w : World) (hv : IsInt B w v x) (hv' : IsInt B' w v' y) (hx : x.natAbs < top300) (hy : y.natAbs < top300) (hy0 : y ≠ 0) (HL : 1000000000 ≤ y.natAbs → LongSaid) :
    Calls Tryz.prog 70 #[v, v'] w (RetInt2 w (x.tdiv y) (x.tmod y) 0) := by
  obtain ⟨s, A, n, c, rfl, Hs, Hn, hl, hc, hN⟩ := hv
  obtain ⟨t, C, m, d, rfl, Ht, Hm, hm, hd, hN'⟩ := hv'
  obtain ⟨w0, hw0⟩ : ∃ w0, w0 = ((((w.alloc (.cells #[.bool s, .slice A n c] 24)).alloc (.cells #[.bool t, .slice C m d] 24)).alloc (.cells #[.bool false, .slice none 0 0] 24)).alloc (.cells #[.bool false, .slice none 0 0] 24)) := ⟨_, rfl⟩
  have hb1 : Bk w0 (w.heap.size) 24 #[.bool s, .slice A n c] := by
    have := (((Bk.new w 24 #[.bool s, .slice A n c]).alloc (.cells #[.bool t, .slice C m d] 24)).alloc (.cells #[.bool false, .slice none 0 0] 24)).alloc (.cells #[.bool false, .slice none 0 0] 24)
    rw [hw0]; simpa using this
  have hb2 : Bk w0 (w.heap.size + 1) 24 #[.bool t, .slice C m d] := by
    have := ((Bk.new (w.alloc (.cells #[.bool s, .slice A n c] 24)) 24 #[.bool t, .slice C m d]).alloc (.cells #[.bool false, .slice none 0 0] 24)).alloc (.cells #[.bool false, .slice none 0 0] 24)
    rw [hw0]; simpa using this
  have hb3 : Bk w0 (w.heap.size + 1 + 1) 24 #[.bool false, .slice none 0 0] := by
    have := (Bk.new ((w.alloc (.cells #[.bool s, .slice A n c] 24)).alloc (.cells #[.bool t, .slice C m d] 24)) 24 #[.bool false, .slice none 0 0]).alloc (.cells #[.bool false, .slice none 0 0] 24)
    rw [hw0]; simpa using this
  have hb4 : Bk w0 (w.heap.size + 1 + 1 + 1) 24 #[.bool false, .slice none 0 0] := by
    have := Bk.new (((w.alloc (.cells #[.bool s, .slice A n c] 24)).alloc (.cells #[.bool t, .slice C m d] 24)).alloc (.cells #[.bool false, .slice none 0 0] 24)) 24 #[.bool false, .slice none 0 0]
    rw [hw0]; simpa using this
  have hup0 : Up w w0 := by rw [hw0]; exact ((((Up.refl w).alloc _).alloc _).alloc _).alloc _
  have hsz0 : w.heap.size + 4 ≤ w0.heap.size := by rw [hw0]; simp
  have Hw0 := hide hw0
  clear hw0
  have e1a := hb1.cell (i := 0) rfl
  have e1b := hb1.cell (i := 1) rfl
  have e2a := hb2.cell (i := 0) rfl
  have e2b := hb2.cell (i := 1) rfl
  have e3a := hb3.cell (i := 0) rfl
  have e3b := hb3.cell (i := 1) rfl
  have e4a := hb4.cell (i := 0) rfl
  have e4b := hb4.cell (i := 1) rfl
  have hn34 : n ≤ 34 := by rw [Hn.out]; exact len_of_top hx
  have hm34 : m ≤ 34 := by rw [Hm.out]; exact len_of_top hy
  have hq := hide (sgn_tdiv Hs Ht)
  have hr := hide (sgn_tmod (s := s) (x := x) (y := y) Hs)
  have hyn : 0 < y.natAbs := by omega
  have hm0 : 0 < m := by rw [Hm.out]; exact Nat.pos_of_ne_zero fun e => by rw [lim_len_zero] at e; omega
  have hmb : ((m : Int) == 0) = false := by rw [beq_eq_false_iff_ne]; omega
  have hqt := hide (Nat.lt_of_le_of_lt (Nat.div_le_self x.natAbs y.natAbs) hx)
  have hrt := hide (Nat.lt_of_le_of_lt (Nat.mod_le x.natAbs y.natAbs) hx)
  have HL2 : Hid (2 ≤ m → LongSaid) := fun h => HL (by
    have h1 := Hm.out
    have h2 := bas_le_of_len (n := y.natAbs) (k := 1) (by omega)
    exact h2)
  clear HL
  go_enter Tryz.func70, Tryz.ntmps70
  go_wp2_with fail
  rw [← Hw0.out]
  refine (both_any B B' _ _ x y w0 ⟨s, A, n, c, rfl, Hs, Hn, hl.up hup0, hc, hN⟩ ⟨t, C, m, d, rfl, Ht, Hm, hm.up hup0, hd, hN'⟩ hx hy).mono ?_
  rintro e w1 ⟨rfl, hup1⟩
  have g1 := hup1.keep e1a
  have g2 := hup1.keep e1b
  have g3 := hup1.keep e2a
  have g4 := hup1.keep e2b
  go_wp2_with fail
  refine (divide_any A C c d x.natAbs y.natAbs _ (hl.up (hup0.trans hup1)) (hm.up (hup0.trans hup1)) n m Hn Hm (by omega) (by omega) hc hd hyn HL2.out).mono ?_
  rintro e w2 ⟨A1, n1, c1, A2, n2, c2, rfl, Hn1, Hn2, hl1, hl2, hc1, hc2, hnew1, hnew2, hup2⟩
  have hn1 : n1 ≤ 34 := by rw [Hn1.out]; exact len_of_top hqt.out
  have hn2 : n2 ≤ 34 := by rw [Hn2.out]; exact len_of_top hrt.out
  have hsz1 := hup1.size
  have hN1 : NewB (w.heap.size + 1 + 1 + 1 + 1) A1 := hnew1.mono (by omega)
  have hN2 : NewB (w.heap.size + 1 + 1 + 1 + 1) A2 := hnew2.mono (by omega)
  have hupB := hup1.trans hup2
  have k1 : w2.cell? ⟨w.heap.size, 0, none⟩ = some (.bool s) := hupB.keep e1a
  have k2 : w2.cell? ⟨w.heap.size + 1, 0, none⟩ = some (.bool t) := hupB.keep e2a
  have hb7 := hb3.up hupB
  have hb8 := hb4.up hupB
  clear g1 g2 g3 g4 hnew1 hnew2 hup1 hup2 hsz1
  go_wp2_with fail
  have hupA : Up w2 w2.drew := (Up.refl w2).drew
  have k3 := hupA.keep k1
  have k4 := hupA.keep k2
  go_region_held3 (fun w' => w'.cell? ⟨w.heap.size, 0, none⟩ = some (.bool s) ∧ w'.cell? ⟨w.heap.size + 1, 0, none⟩ = some (.bool t))
    (((repeat' apply And.intro) <;> (repeat (with_reducible refine cell_far2 ?_ ?_ _ _; · omega)) <;> with_reducible assumption))
    (first
      | (go_at_call_of 86 A1; refine (signedI (w.heap.size + 1 + 1 + 1 + 1) (s != t) A1 c1 n1 (x.natAbs / y.natAbs) _ (hl1.up hupA) Hn1 (by omega) hc1 hN1).mono ?_; rintro e w3 ⟨⟨v3, rfl, hv3⟩, hup3⟩; replace hupA := hupA.trans hup3; have k3 := hupA.keep k1; have k4 := hupA.keep k2; rw [hq.out] at hv3; obtain ⟨s3, A3, n3, c3, rfl, Hs3, Hn3, hl3, hc3, hnew3⟩ := hv3; have hb5 := hb7.up hupA; have hb6 := hb8.up hupA; have f1 := hb5.cell (i := 0) rfl; have f2 := hb5.cell (i := 1) rfl; have f3 := hb5.frozen 0; have f4 := hb5.frozen 1; have p1 := hb6.cell (i := 0) rfl; have p2 := hb6.cell (i := 1) rfl; have p3 := hb6.frozen 0; have p4 := hb6.frozen 1)
      | (go_at_call_of 86 A2; refine (signedI (w.heap.size + 1 + 1 + 1 + 1) s A2 c2 n2 (x.natAbs % y.natAbs) _ (hl2.up hupA) Hn2 (by omega) hc2 hN2).mono ?_; rintro e w4 ⟨⟨v4, rfl, hv4⟩, hup4⟩; replace hupA := hupA.trans hup4; have k3 := hupA.keep k1; have k4 := hupA.keep k2; rw [hr.out] at hv4; obtain ⟨s4, A4, n4, c4, rfl, Hs4, Hn4, hl4, hc4, hnew4⟩ := hv4; have hb5 := hb7.up hupA; have hb6 := hb8.up hupA; have f1 := hb5.cell (i := 0) rfl; have f2 := hb5.cell (i := 1) rfl; have f3 := hb5.frozen 0; have f4 := hb5.frozen 1; have p1 := hb6.cell (i := 0) rfl; have p2 := hb6.cell (i := 1) rfl; have p3 := hb6.frozen 0; have p4 := hb6.frozen 1))
  all_goals
    have hQ1 := (hb5.two_bk (.bool s3) (.slice A3 n3 c3)).far2 (g' := w.heap.size + 1 + 1 + 1) (by omega) (.bool s4) (.slice A4 n4 c4)
    have hQ2 := (hb6.far2 (g' := w.heap.size + 1 + 1) (by omega) (.bool s3) (.slice A3 n3 c3)).two_bk (.bool s4) (.slice A4 n4 c4)
    have q1 := hQ1.cell (i := 0) rfl
    have q2 := hQ1.cell (i := 1) rfl
    have q3 := hQ2.cell (i := 0) rfl
    have q4 := hQ2.cell (i := 1) rfl
    go_wp2
    refine bodyPost_ret (v := .tuple #[.agg #[.bool s3, .slice A3 n3 c3], .agg #[.bool s4, .slice A4 n4 c4], .int .i64 0]) (by simp [results, Tryz.results70, go_sem, q1, q2, q3, q4]) rfl
      ⟨_, _, rfl, ⟨s3, A3, n3, c3, rfl, Hs3, Hn3, Lim.two (Lim.two (by first | exact hl3 | exact hl3.up hup4) (hnew3.mono (by omega)) _ _) hnew3 _ _, hc3, hnew3.mono (by omega)⟩, ⟨s4, A4, n4, c4, rfl, Hs4, Hn4, Lim.two (Lim.two (by first | exact hl4 | exact hl4.up hup3) (hnew4.mono (by omega)) _ _) hnew4 _ _, hc4, hnew4.mono (by omega)⟩, (((hup0.trans hupB).trans hupA).two (by omega) _ _).two (by omega) _ _⟩
end Go.Proofs.YtldifgfpecicnaaGreatDoor
