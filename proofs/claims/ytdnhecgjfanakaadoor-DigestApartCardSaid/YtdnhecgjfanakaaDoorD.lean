/- Walks: rotations, and the numbers W of a block. -/
import Derived.Test.YtdnhecgjfanakaaDoorC
import Derived.Laws.Rows
import Derived.Deep.WholeRow
import Derived.Outline
namespace Go.Proofs.YtdnhecgjfanakaaDoor
open Go.RowKit

theorem cast_rr (x n : Nat) (a b : Int) (ha : a = 2 ^ (32 - n)) (hb : b = 2 ^ n) : bits .or .u32 ((x : Int) * a % 4294967296) ((x : Int) / b) = ((rr x n % 4294967296 : Nat) : Int) := by
  subst ha hb
  have := or_c (x * 2 ^ (32 - n) % 4294967296) (x / 2 ^ n)
  unfold rr
  rw [← this]
  congr 1
set_option maxRecDepth 1000000 in
set_option maxHeartbeats 1000000 in
theorem rotl_2 (x : Nat) (w : World) (hx : x < 4294967296) : Calls Tryd.prog 23 #[.int .u32 x, .int .i64 (-2)] w fun e w' => e = .returned (.int .u32 (rr x 2 : Nat)) ∧ w = w' := by
  have e : bits .and .u64 (IntKind.u64.wrap (-2)) 31 = 30 := by decide +kernel
  have HX := hide hx
  clear hx
  go_enter Tryd.func23, Tryd.ntmps23
  go_wp2
  go_ret
  exact ⟨ret_int ((cast_rr x 2 1073741824 4 (by decide) (by decide)).trans (by rw [Nat.mod_eq_of_lt (rr_lt HX.out)])), rfl⟩
set_option maxRecDepth 1000000 in
set_option maxHeartbeats 1000000 in
theorem rotl_6 (x : Nat) (w : World) (hx : x < 4294967296) : Calls Tryd.prog 23 #[.int .u32 x, .int .i64 (-6)] w fun e w' => e = .returned (.int .u32 (rr x 6 : Nat)) ∧ w = w' := by
  have e : bits .and .u64 (IntKind.u64.wrap (-6)) 31 = 26 := by decide +kernel
  have HX := hide hx
  clear hx
  go_enter Tryd.func23, Tryd.ntmps23
  go_wp2
  go_ret
  exact ⟨ret_int ((cast_rr x 6 67108864 64 (by decide) (by decide)).trans (by rw [Nat.mod_eq_of_lt (rr_lt HX.out)])), rfl⟩
set_option maxRecDepth 1000000 in
set_option maxHeartbeats 1000000 in
theorem rotl_7 (x : Nat) (w : World) (hx : x < 4294967296) : Calls Tryd.prog 23 #[.int .u32 x, .int .i64 (-7)] w fun e w' => e = .returned (.int .u32 (rr x 7 : Nat)) ∧ w = w' := by
  have e : bits .and .u64 (IntKind.u64.wrap (-7)) 31 = 25 := by decide +kernel
  have HX := hide hx
  clear hx
  go_enter Tryd.func23, Tryd.ntmps23
  go_wp2
  go_ret
  exact ⟨ret_int ((cast_rr x 7 33554432 128 (by decide) (by decide)).trans (by rw [Nat.mod_eq_of_lt (rr_lt HX.out)])), rfl⟩
set_option maxRecDepth 1000000 in
set_option maxHeartbeats 1000000 in
theorem rotl_11 (x : Nat) (w : World) (hx : x < 4294967296) : Calls Tryd.prog 23 #[.int .u32 x, .int .i64 (-11)] w fun e w' => e = .returned (.int .u32 (rr x 11 : Nat)) ∧ w = w' := by
  have e : bits .and .u64 (IntKind.u64.wrap (-11)) 31 = 21 := by decide +kernel
  have HX := hide hx
  clear hx
  go_enter Tryd.func23, Tryd.ntmps23
  go_wp2
  go_ret
  exact ⟨ret_int ((cast_rr x 11 2097152 2048 (by decide) (by decide)).trans (by rw [Nat.mod_eq_of_lt (rr_lt HX.out)])), rfl⟩
set_option maxRecDepth 1000000 in
set_option maxHeartbeats 1000000 in
theorem rotl_13 (x : Nat) (w : World) (hx : x < 4294967296) : Calls Tryd.prog 23 #[.int .u32 x, .int .i64 (-13)] w fun e w' => e = .returned (.int .u32 (rr x 13 : Nat)) ∧ w = w' := by
  have e : bits .and .u64 (IntKind.u64.wrap (-13)) 31 = 19 := by decide +kernel
  have HX := hide hx
  clear hx
  go_enter Tryd.func23, Tryd.ntmps23
  go_wp2
  go_ret
  exact ⟨ret_int ((cast_rr x 13 524288 8192 (by decide) (by decide)).trans (by rw [Nat.mod_eq_of_lt (rr_lt HX.out)])), rfl⟩
set_option maxRecDepth 1000000 in
set_option maxHeartbeats 1000000 in
theorem rotl_17 (x : Nat) (w : World) (hx : x < 4294967296) : Calls Tryd.prog 23 #[.int .u32 x, .int .i64 (-17)] w fun e w' => e = .returned (.int .u32 (rr x 17 : Nat)) ∧ w = w' := by
  have e : bits .and .u64 (IntKind.u64.wrap (-17)) 31 = 15 := by decide +kernel
  have HX := hide hx
  clear hx
  go_enter Tryd.func23, Tryd.ntmps23
  go_wp2
  go_ret
  exact ⟨ret_int ((cast_rr x 17 32768 131072 (by decide) (by decide)).trans (by rw [Nat.mod_eq_of_lt (rr_lt HX.out)])), rfl⟩
set_option maxRecDepth 1000000 in
set_option maxHeartbeats 1000000 in
theorem rotl_18 (x : Nat) (w : World) (hx : x < 4294967296) : Calls Tryd.prog 23 #[.int .u32 x, .int .i64 (-18)] w fun e w' => e = .returned (.int .u32 (rr x 18 : Nat)) ∧ w = w' := by
  have e : bits .and .u64 (IntKind.u64.wrap (-18)) 31 = 14 := by decide +kernel
  have HX := hide hx
  clear hx
  go_enter Tryd.func23, Tryd.ntmps23
  go_wp2
  go_ret
  exact ⟨ret_int ((cast_rr x 18 16384 262144 (by decide) (by decide)).trans (by rw [Nat.mod_eq_of_lt (rr_lt HX.out)])), rfl⟩
set_option maxRecDepth 1000000 in
set_option maxHeartbeats 1000000 in
theorem rotl_19 (x : Nat) (w : World) (hx : x < 4294967296) : Calls Tryd.prog 23 #[.int .u32 x, .int .i64 (-19)] w fun e w' => e = .returned (.int .u32 (rr x 19 : Nat)) ∧ w = w' := by
  have e : bits .and .u64 (IntKind.u64.wrap (-19)) 31 = 13 := by decide +kernel
  have HX := hide hx
  clear hx
  go_enter Tryd.func23, Tryd.ntmps23
  go_wp2
  go_ret
  exact ⟨ret_int ((cast_rr x 19 8192 524288 (by decide) (by decide)).trans (by rw [Nat.mod_eq_of_lt (rr_lt HX.out)])), rfl⟩
set_option maxRecDepth 1000000 in
set_option maxHeartbeats 1000000 in
theorem rotl_22 (x : Nat) (w : World) (hx : x < 4294967296) : Calls Tryd.prog 23 #[.int .u32 x, .int .i64 (-22)] w fun e w' => e = .returned (.int .u32 (rr x 22 : Nat)) ∧ w = w' := by
  have e : bits .and .u64 (IntKind.u64.wrap (-22)) 31 = 10 := by decide +kernel
  have HX := hide hx
  clear hx
  go_enter Tryd.func23, Tryd.ntmps23
  go_wp2
  go_ret
  exact ⟨ret_int ((cast_rr x 22 1024 4194304 (by decide) (by decide)).trans (by rw [Nat.mod_eq_of_lt (rr_lt HX.out)])), rfl⟩
set_option maxRecDepth 1000000 in
set_option maxHeartbeats 1000000 in
theorem rotl_25 (x : Nat) (w : World) (hx : x < 4294967296) : Calls Tryd.prog 23 #[.int .u32 x, .int .i64 (-25)] w fun e w' => e = .returned (.int .u32 (rr x 25 : Nat)) ∧ w = w' := by
  have e : bits .and .u64 (IntKind.u64.wrap (-25)) 31 = 7 := by decide +kernel
  have HX := hide hx
  clear hx
  go_enter Tryd.func23, Tryd.ntmps23
  go_wp2
  go_ret
  exact ⟨ret_int ((cast_rr x 25 128 33554432 (by decide) (by decide)).trans (by rw [Nat.mod_eq_of_lt (rr_lt HX.out)])), rfl⟩
set_option maxRecDepth 1000000 in
set_option maxHeartbeats 2000000 in
theorem rot_2 (x : Nat) (w : World) (hx : x < 4294967296) : Calls Tryd.prog 21 #[.int .u32 x, .int .i64 2] w fun e w' => e = .returned (.int .u32 (rr x 2 : Nat)) ∧ w = w' := by
  have HX := hide hx
  clear hx
  go_enter Tryd.func21, Tryd.ntmps21
  go_wp2_with (go_at_call 23; refine (rotl_2 x _ HX.out).mono ?_; rintro e w' ⟨rfl, rfl⟩)
  go_ret
  exact ⟨rfl, rfl⟩
set_option maxRecDepth 1000000 in
set_option maxHeartbeats 2000000 in
theorem rot_6 (x : Nat) (w : World) (hx : x < 4294967296) : Calls Tryd.prog 21 #[.int .u32 x, .int .i64 6] w fun e w' => e = .returned (.int .u32 (rr x 6 : Nat)) ∧ w = w' := by
  have HX := hide hx
  clear hx
  go_enter Tryd.func21, Tryd.ntmps21
  go_wp2_with (go_at_call 23; refine (rotl_6 x _ HX.out).mono ?_; rintro e w' ⟨rfl, rfl⟩)
  go_ret
  exact ⟨rfl, rfl⟩
set_option maxRecDepth 1000000 in
set_option maxHeartbeats 2000000 in
theorem rot_7 (x : Nat) (w : World) (hx : x < 4294967296) : Calls Tryd.prog 21 #[.int .u32 x, .int .i64 7] w fun e w' => e = .returned (.int .u32 (rr x 7 : Nat)) ∧ w = w' := by
  have HX := hide hx
  clear hx
  go_enter Tryd.func21, Tryd.ntmps21
  go_wp2_with (go_at_call 23; refine (rotl_7 x _ HX.out).mono ?_; rintro e w' ⟨rfl, rfl⟩)
  go_ret
  exact ⟨rfl, rfl⟩
set_option maxRecDepth 1000000 in
set_option maxHeartbeats 2000000 in
theorem rot_11 (x : Nat) (w : World) (hx : x < 4294967296) : Calls Tryd.prog 21 #[.int .u32 x, .int .i64 11] w fun e w' => e = .returned (.int .u32 (rr x 11 : Nat)) ∧ w = w' := by
  have HX := hide hx
  clear hx
  go_enter Tryd.func21, Tryd.ntmps21
  go_wp2_with (go_at_call 23; refine (rotl_11 x _ HX.out).mono ?_; rintro e w' ⟨rfl, rfl⟩)
  go_ret
  exact ⟨rfl, rfl⟩
set_option maxRecDepth 1000000 in
set_option maxHeartbeats 2000000 in
theorem rot_13 (x : Nat) (w : World) (hx : x < 4294967296) : Calls Tryd.prog 21 #[.int .u32 x, .int .i64 13] w fun e w' => e = .returned (.int .u32 (rr x 13 : Nat)) ∧ w = w' := by
  have HX := hide hx
  clear hx
  go_enter Tryd.func21, Tryd.ntmps21
  go_wp2_with (go_at_call 23; refine (rotl_13 x _ HX.out).mono ?_; rintro e w' ⟨rfl, rfl⟩)
  go_ret
  exact ⟨rfl, rfl⟩
set_option maxRecDepth 1000000 in
set_option maxHeartbeats 2000000 in
theorem rot_17 (x : Nat) (w : World) (hx : x < 4294967296) : Calls Tryd.prog 21 #[.int .u32 x, .int .i64 17] w fun e w' => e = .returned (.int .u32 (rr x 17 : Nat)) ∧ w = w' := by
  have HX := hide hx
  clear hx
  go_enter Tryd.func21, Tryd.ntmps21
  go_wp2_with (go_at_call 23; refine (rotl_17 x _ HX.out).mono ?_; rintro e w' ⟨rfl, rfl⟩)
  go_ret
  exact ⟨rfl, rfl⟩
set_option maxRecDepth 1000000 in
set_option maxHeartbeats 2000000 in
theorem rot_18 (x : Nat) (w : World) (hx : x < 4294967296) : Calls Tryd.prog 21 #[.int .u32 x, .int .i64 18] w fun e w' => e = .returned (.int .u32 (rr x 18 : Nat)) ∧ w = w' := by
  have HX := hide hx
  clear hx
  go_enter Tryd.func21, Tryd.ntmps21
  go_wp2_with (go_at_call 23; refine (rotl_18 x _ HX.out).mono ?_; rintro e w' ⟨rfl, rfl⟩)
  go_ret
  exact ⟨rfl, rfl⟩
set_option maxRecDepth 1000000 in
set_option maxHeartbeats 2000000 in
theorem rot_19 (x : Nat) (w : World) (hx : x < 4294967296) : Calls Tryd.prog 21 #[.int .u32 x, .int .i64 19] w fun e w' => e = .returned (.int .u32 (rr x 19 : Nat)) ∧ w = w' := by
  have HX := hide hx
  clear hx
  go_enter Tryd.func21, Tryd.ntmps21
  go_wp2_with (go_at_call 23; refine (rotl_19 x _ HX.out).mono ?_; rintro e w' ⟨rfl, rfl⟩)
  go_ret
  exact ⟨rfl, rfl⟩
set_option maxRecDepth 1000000 in
set_option maxHeartbeats 2000000 in
theorem rot_22 (x : Nat) (w : World) (hx : x < 4294967296) : Calls Tryd.prog 21 #[.int .u32 x, .int .i64 22] w fun e w' => e = .returned (.int .u32 (rr x 22 : Nat)) ∧ w = w' := by
  have HX := hide hx
  clear hx
  go_enter Tryd.func21, Tryd.ntmps21
  go_wp2_with (go_at_call 23; refine (rotl_22 x _ HX.out).mono ?_; rintro e w' ⟨rfl, rfl⟩)
  go_ret
  exact ⟨rfl, rfl⟩
set_option maxRecDepth 1000000 in
set_option maxHeartbeats 2000000 in
theorem rot_25 (x : Nat) (w : World) (hx : x < 4294967296) : Calls Tryd.prog 21 #[.int .u32 x, .int .i64 25] w fun e w' => e = .returned (.int .u32 (rr x 25 : Nat)) ∧ w = w' := by
  have HX := hide hx
  clear hx
  go_enter Tryd.func21, Tryd.ntmps21
  go_wp2_with (go_at_call 23; refine (rotl_25 x _ HX.out).mono ?_; rintro e w' ⟨rfl, rfl⟩)
  go_ret
  exact ⟨rfl, rfl⟩
end Go.Proofs.YtdnhecgjfanakaaDoor
