/- The reference's list of all subsets of the first servers. -/
import Derived.Test.YtfdlmgjjpcdkpaaDoorGj
namespace Go.Proofs.YtfdlmgjjpcdkpaaDoor
open Go.RowKit

/-- The subsets of n servers with less than k members, in order. -/
def allK (n k : Nat) : List Nat := (List.range k).flatMap fun j => (List.range (2 ^ n)).filter fun x => cnt x == j
theorem allK_succ (n k : Nat) : allK n (k + 1) = allK n k ++ (List.range (2 ^ n)).filter fun x => cnt x == k := by
  unfold allK
  rw [List.range_succ, List.flatMap_append]
  simp
theorem two7 {n : Nat} (h : n ≤ 7) : IntKind.i64.wrap ((2 : Int) ^ n) = ((2 ^ n : Nat) : Int) := by
  have : n = 0 ∨ n = 1 ∨ n = 2 ∨ n = 3 ∨ n = 4 ∨ n = 5 ∨ n = 6 ∨ n = 7 := by omega
  rcases this with rfl | rfl | rfl | rfl | rfl | rfl | rfl | rfl <;> decide
theorem filt_succ (p : Nat → Bool) (x : Nat) : (List.range (x + 1)).filter p = (List.range x).filter p ++ (if p x then [x] else []) := by
  rw [List.range_succ, List.filter_append]
  simp only [List.filter_cons, List.filter_nil]
theorem filt_len (p : Nat → Bool) (x : Nat) : ((List.range x).filter p).length ≤ x := Nat.le_trans (List.length_filter_le _ _) (by simp)
set_option maxRecDepth 100000 in
set_option maxHeartbeats 4000000 in
theorem rall_any (n : Nat) (w : World) (hn : n ≤ 7) : Calls Tryd.prog 35 #[.int .i64 (n : Int)] w (RetL w (allL n)) := by
  have HL : Hid (allL n = allK n (n + 1)) := rfl
  obtain ⟨L, HL2⟩ : ∃ L, Hid (L = allL n) := ⟨_, rfl⟩
  rw [← HL2.out]
  have hp : 2 ^ n ≤ 2 ^ 7 := Nat.pow_le_pow_right (by omega) hn
  have hwp := two7 hn
  obtain ⟨N, HN⟩ : ∃ N : Nat, Hid (N = 2 ^ n) := ⟨_, rfl⟩
  rw [← HN.out] at hwp hp
  have HK : Hid (∀ k, allK n (k + 1) = allK n k ++ (List.range N).filter fun x => cnt x == k) := by intro k; rw [HN.out]; exact allK_succ n k
  go_enter Tryd.func35, Tryd.ntmps35
  go_wp2
  go_loopw [3, 4] (fun v3 v4 wr => ∃ (k q : Nat) (ls : List Nat), v4 = .int .i64 (k : Int) ∧ k ≤ n + 1 ∧ q ≤ 128 * k ∧ wr.ownsRow w.heap.size 28 1 v3 q (us ls) ∧ Hid (ls = allK n k) ∧ Up w wr) (fun _ v4 _ => n + 1 - (intOf v4).toNat)
  case atStart => exact ⟨0, 0, [], rfl, by omega, by omega, World.ownsRow_nil _ _ _ _, rfl, Up.refl _⟩
  case round =>
    obtain ⟨k, q, ls, rfl, hk, hq, hown, HX, hup⟩ := hrel
    by_cases hlt : k ≤ n
    · have d : decide (k ≤ n) = true := decide_eq_true hlt
      go_wp2
      go_loopw [3, 5] (fun v3 v5 wy => ∃ (x q : Nat) (ls : List Nat), v5 = .int .i64 (x : Int) ∧ x ≤ N ∧ q ≤ 128 * k + x ∧ wy.ownsRow w.heap.size 28 1 v3 q (us ls) ∧ Hid (ls = allK n k ++ (List.range x).filter fun x => cnt x == k) ∧ Up w wy) (fun _ v5 _ => N - (intOf v5).toNat)
      case atStart => exact ⟨0, q, ls, rfl, by omega, by omega, hown, by show ls = _; rw [HX.out]; simp, hup⟩
      case round =>
        obtain ⟨x, q, ls, rfl, hx, hq, hown, HX, hup⟩ := hrel
        have hsz := hup.size
        by_cases hxN : x < N
        · have hwx : IntKind.u16.wrap (x : Int) = (x : Int) := by rw [wrap16]; omega
          have hsize := fun w => rsize_any x w (by omega)
          have HS : Hid ((List.range (x + 1)).filter (fun x => cnt x == k) = (List.range x).filter (fun x => cnt x == k) ++ (if cnt x == k then [x] else [])) := filt_succ _ _
          obtain ⟨y, hy⟩ : ∃ y, cnt x = y := ⟨_, rfl⟩
          rw [hy] at hsize HS
          have dx : decide ((x : Int) < (N : Int)) = true := decide_eq_true (by omega)
          clear hy
          go_wp2_with fail
          refine (hsize _).mono ?_
          rintro e w1 ⟨rfl, rfl⟩
          clear hsize
          by_cases hyk : y = k
          · have q1 : ((y : Int) == (k : Int)) = true := by rw [beq_iff_eq]; omega
            have HX2 : Hid (ls ++ [x] = allK n k ++ (List.range (x + 1)).filter fun x => cnt x == k) := by show _ = _; rw [HS.out, if_pos (by simp [hyk]), HX.out, List.append_assoc]
            clear hyk HS HX
            go_wp2_with (at_builtin; refine wp_appV rfl _ _ 22 28 rfl w.heap.size (.int .u16 0) 2 Tryd.underlying22 Tryd.info28 rfl (by decide) _ q _ rfl (hown.alloc _) (some ⟨w1.heap.size, 0, none⟩) 1 1 (us [x]) rfl rfl (us_one _) (vals_one _ _ _) (by omega) (by simp; omega) ?_; intro v1 w3 hown3 hgrow3)
            go_roundw
            case rel => exact ⟨x + 1, q + 1, ls ++ [x], by go_num, by omega, by omega, by rw [us_append]; exact hown3, HX2.out, up_append hup hown hgrow3⟩
            case measure => simp [intOf]; omega
          · have q1 : ((y : Int) == (k : Int)) = false := by rw [beq_eq_false_iff_ne]; omega
            have HX2 : Hid (ls = allK n k ++ (List.range (x + 1)).filter fun x => cnt x == k) := by show _ = _; rw [HS.out, if_neg (by simp [hyk]), List.append_nil, HX.out]
            clear hyk HS HX
            go_wp2
            go_roundw
            case rel => exact ⟨x + 1, q, ls, by go_num, by omega, by omega, hown, HX2.out, hup⟩
            case measure => simp [intOf]; omega
        · obtain rfl : x = N := by omega
          have HX2 : Hid (ls = allK n (k + 1)) := by show _ = _; rw [HX.out, HK.out]
          have dx : decide ((x : Int) < (x : Int)) = false := decide_eq_false (by omega)
          clear HX
          go_wp2
          go_roundw
          case rel => exact ⟨k + 1, q, ls, by go_num, by omega, by omega, hown, HX2.out, hup⟩
          case measure => simp [intOf]; omega
    · obtain rfl : k = n + 1 := by omega
      have d : decide ((n : Int) + 1 ≤ (n : Int)) = false := decide_eq_false (by omega)
      have HE : Hid (ls = L) := by show _ = _; rw [HX.out, HL2.out, HL.out]
      have hlen := own_len hown
      rw [← hlen] at hown
      rw [HE.out] at hown
      clear HX hlen
      go_wp2
      go_ret
      exact ⟨_, rfl, hown, hup⟩
end Go.Proofs.YtfdlmgjjpcdkpaaDoor
