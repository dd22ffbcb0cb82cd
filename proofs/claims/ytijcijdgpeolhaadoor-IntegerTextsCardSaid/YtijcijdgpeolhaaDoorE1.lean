/- slices.Backward over uint32. -/
import Derived.Test.YtijcijdgpeolhaaDoorD5
import Derived.RangeFuncNested
import Derived.RangeFuncBound
import Derived.RangeFuncCalls
import Derived.RangeFuncLeaves
import Derived.Shelf.Abstract
import Derived.Shelf.RegionOpen
import Derived.OwnWalkIn
import Derived.TacticsInMore
import Derived.LoopNIn
import Derived.LoopIn
namespace Go.Proofs.YtijcijdgpeolhaaDoor
open Go.RowKit Go.Shelf
attribute [local go_sem] Oper.semAt_some

/-- An index and a number, both within bounds. -/
def Pair (n M : Nat) : Type := { x : Nat × Nat // x.1 < n ∧ x.2 < M }
/-- What comes in the k-th round. -/
def pairAt {n M : Nat} (l : List Nat) (hn : 0 < n) (hM : ∀ k, l.getD k 0 < M) (k : Nat) : Pair n M := ⟨(n - 1 - k, l.getD (n - 1 - k) 0), by dsimp only; omega, hM _⟩
/-- What has come when k rounds are over. -/
def pairs {n M : Nat} (l : List Nat) (hn : 0 < n) (hM : ∀ k, l.getD k 0 < M) (k : Nat) : List (Pair n M) := (List.range k).map (pairAt l hn hM)
theorem pairs_succ {n M : Nat} (l : List Nat) (hn : 0 < n) (hM : ∀ k, l.getD k 0 < M) (k : Nat) : pairs l hn hM (k + 1) = pairs l hn hM k ++ [pairAt l hn hM k] := by simp [pairs, List.range_succ]
theorem pairs_len {n M : Nat} (l : List Nat) (hn : 0 < n) (hM : ∀ k, l.getD k 0 < M) (k : Nat) : (pairs l hn hM k).length = k := by simp [pairs]
/-- The indices and numbers in the order in which they come, k of them. -/
def raws (l : List Nat) (n k : Nat) : List (Nat × Nat) := (List.range k).map fun k => (n - 1 - k, l.getD (n - 1 - k) 0)
theorem raws_pairs {n M : Nat} (l : List Nat) (hn : 0 < n) (hM : ∀ k, l.getD k 0 < M) (k : Nat) : (pairs l hn hM k).map (fun x => x.1) = raws l n k := by simp [pairs, raws, pairAt]
/-- What a round must keep: old memory, and the iterator's box. -/
def KeepBox (n₀ Bs : Nat) (W W' : World) : Prop := Below n₀ W W' ∧ ∀ v, W.cell? ⟨Bs, 0, none⟩ = some v → W'.cell? ⟨Bs, 0, none⟩ = some v

set_option maxRecDepth 100000 in
set_option maxHeartbeats 2000000 in
theorem back1_in (F : Fence) (q : Nat) (hF : F.fn 45) (hro : F.round = none) (hq : 1 ≤ q) (l Bs n₀ M : Nat) (A : Option Addr) (c n : Nat) (ls : List Nat) (hn : 0 < n) (hM : ∀ k, ls.getD k 0 < M) (hn2 : n ≤ 1000000) (Hn : Hid (n = ls.length)) (J Jx : List (Pair n M) → World → Prop)
    (hY : ∀ pre x W, J pre W → pre.length < n → YieldAt F (q - 1) Tryd.prog l #[.int .i64 ((x : Pair n M).1.1 : Nat), .int .u32 (x.1.2 : Nat)] W fun e W' =>
      (e = .returned (.bool true) ∧ J (pre ++ [x]) W' ∧ KeepBox n₀ Bs W W') ∨ (e = .returned (.bool false) ∧ Jx (pre ++ [x]) W'))
    (W : World) (hBs : W.cell? ⟨Bs, 0, none⟩ = some (.slice A n c)) (hl : Lim W A ls) (hA : ∀ ad, A = some ad → ad.block < n₀) (h0 : J [] W) :
    CallsIn F q Tryd.prog 45 #[.func (.yield l) #[] #[], .pointer (some ⟨Bs, 0, none⟩)] W fun e W' => (∃ v, e = .returned v) ∧
      ((∃ ys, ys.map (fun x => x.1) = raws ls n n ∧ J ys W') ∨ (∃ pre, (∃ k, k ≤ n ∧ pre.map (fun x => x.1) = raws ls n k) ∧ Jx pre W')) := by
  refine callsIn_of_wp Tryd.func45 rfl hF ?_ hro
  simp only [Tryd.ntmps45, List.size_toArray, List.length_cons, List.length_nil, Nat.reduceAdd, Nat.reduceSub, Array.replicate_succ, Array.replicate_zero, List.push_toArray, List.append_toArray, List.nil_append, List.cons_append]
  gi_wp2
  gi_loopw [3] (fun iv wr => ∃ (j : Int) (m k : Nat), iv = .int .i64 j ∧ j + 1 = m ∧ m + k = n ∧ J (pairs ls hn hM k) wr ∧ KeepBox n₀ Bs W wr) (fun iv _ => (intOf iv + 1).toNat)
  case atStart => exact ⟨_, n, 0, rfl, by omega, by omega, h0, Below.refl _ _, fun _ h => h⟩
  case round =>
    obtain ⟨j, m, k, rfl, hj, hmk, hJs, hKb⟩ := hrel
    have hBr := hKb.2 _ hBs
    by_cases hpos : 0 < m
    · obtain ⟨m, rfl⟩ : ∃ m', m = m' + 1 := ⟨m - 1, by omega⟩
      obtain rfl : j = (m : Int) := by omega
      obtain ⟨ad, rfl, hb, hcell0⟩ := hl.at_ (k := m) (by rw [← Hn.out]; omega)
      have hcell : wr.cell? (ad.add m) = some (.int .u32 ((ls.getD m 0 : Nat) : Int)) := (hKb.1.cell (by rw [addBlock]; exact hA ad rfl)).trans hcell0
      obtain ⟨fn, tmps, assign, body, hy, hR⟩ := hY _ (pairAt ls hn hM k) wr hJs (by rw [pairs_len]; omega)
      have e1 : (pairAt ls hn hM k).1.1 = m := by show n - 1 - k = m; omega
      have e2 : (pairAt ls hn hM k).1.2 = ls.getD m 0 := by show ls.getD (n - 1 - k) 0 = _; rw [show n - 1 - k = m by omega]
      rw [e1, e2] at hy
      obtain ⟨x, Hx⟩ : ∃ x, Hid (x = ls.getD m 0) := ⟨_, rfl⟩
      rw [← Hx.out] at hy hcell
      have HMK := hide hmk
      have hmn : m < n := by omega
      clear hcell0 e1 e2 hj hmk hpos hl
      gi_wp2
      refine hR.mono ?_
      rintro e W3 (⟨rfl, hJ3, hk3⟩ | ⟨rfl, hJx3⟩)
      · gi_wp2
        go_roundw
        case rel => exact ⟨_, m, k + 1, rfl, by omega, by have := HMK.out; omega, by rw [pairs_succ]; exact hJ3, hKb.1.trans hk3.1, fun v h => hk3.2 v (hKb.2 v h)⟩
        case measure => simp [intOf]
      · gi_wp2
        refine bodyPost_ret (results_none rfl _ _ _) rfl ?_
        exact ⟨⟨_, rfl⟩, .inr ⟨_, ⟨k + 1, by have := HMK.out; omega, by rw [← raws_pairs ls hn hM, pairs_succ]⟩, hJx3⟩⟩
    · obtain rfl : m = 0 := by omega
      obtain rfl : j = -1 := by omega
      obtain rfl : k = n := by omega
      gi_wp2
      go_end0
      exact ⟨⟨_, rfl⟩, .inl ⟨_, raws_pairs ls hn hM k, hJs⟩⟩

set_option maxHeartbeats 1000000 in
theorem back_in (F : Fence) (q : Nat) (hF : F.fn 22) (hro : F.round = none) (A : Option Addr) (n c : Nat) (w : World) :
    CallsIn F q Tryd.prog 22 #[.slice A n c] w fun e w' => e = .returned (.func (.func 45) #[] #[.pointer (some ⟨w.heap.size, 0, none⟩)]) ∧ w' = w.alloc (.cells #[.slice A n c] 22) := by
  refine callsIn_of_wp Tryd.func22 rfl hF ?_ hro
  simp only [Tryd.ntmps22, List.size_toArray, List.length_cons, List.length_nil, Nat.reduceAdd, Nat.reduceSub, Array.replicate_succ, Array.replicate_zero, List.push_toArray, List.append_toArray, List.nil_append, List.cons_append]
  gi_wp2
  go_ret
  exact ⟨rfl, rfl⟩
end Go.Proofs.YtijcijdgpeolhaaDoor
