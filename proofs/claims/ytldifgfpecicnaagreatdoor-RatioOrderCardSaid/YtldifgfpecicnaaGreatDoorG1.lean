/- The program's Parse at two texts that it refuses. -/
import Derived.Test.YtldifgfpecicnaaGreatDoorGB
namespace Go.Proofs.YtldifgfpecicnaaGreatDoor
open Go.RowKit

set_option maxRecDepth 100000 in
set_option maxHeartbeats 400000 in
theorem has_minus (w : World) : Calls Tryz.prog 129 #[.string ⟨#[45, 48]⟩, .string ⟨#[45]⟩] w fun e w' => e = .returned (.bool true) ∧ w = w' := by
  go_enter Tryz.func129, Tryz.ntmps129
  go_wp2
  go_ret
  exact ⟨by kernel_rfl, rfl⟩
set_option maxRecDepth 100000 in
set_option maxHeartbeats 400000 in
theorem cut_minus (w : World) : Calls Tryz.prog 126 #[.string ⟨#[45, 48]⟩, .string ⟨#[45]⟩] w fun e w' => e = .returned (.tuple #[.string ⟨#[48]⟩, .bool true]) ∧ w = w' := by
  go_enter Tryz.func126, Tryz.ntmps126
  go_wp2_with (go_at_call 129; refine (has_minus _).mono ?_; rintro e w' ⟨rfl, rfl⟩)
  go_ret2
  exact ⟨rfl, rfl⟩
set_option maxRecDepth 100000 in
set_option maxHeartbeats 400000 in
theorem scut_minus (w : World) : Calls Tryz.prog 98 #[.string ⟨#[45, 48]⟩, .string ⟨#[45]⟩] w fun e w' => e = .returned (.tuple #[.string ⟨#[48]⟩, .bool true]) ∧ w = w' := by
  go_enter Tryz.func98, Tryz.ntmps98
  go_wp2_with (go_at_call 126; refine (cut_minus _).mono ?_; rintro e w' ⟨rfl, rfl⟩)
  go_ret2
  exact ⟨rfl, rfl⟩
set_option maxRecDepth 100000 in
set_option maxHeartbeats 400000 in
theorem nat_minus (w : World) : Calls Tryz.prog 99 #[.string ⟨#[48]⟩] w fun e w' => e = .returned (.bool false) ∧ w = w' := by
  go_enter Tryz.func99, Tryz.ntmps99
  go_wp2
  go_ret
  exact ⟨rfl, rfl⟩
/-- The text is refused. -/
def RetNo (w : World) (e : Ending) (w' : World) : Prop := ∃ v, e = .returned (.tuple #[v, .int .i64 2]) ∧ IsInt w.heap.size w' v 0 ∧ Up w w'
set_option maxRecDepth 100000 in
set_option maxHeartbeats 400000 in
theorem parse_minus (w : World) : Calls Tryz.prog 67 #[.string ⟨#[45, 48]⟩] w (RetNo w) := by
  go_enter Tryz.func67, Tryz.ntmps67
  go_wp2_with (first | (go_at_call 98; refine (scut_minus _).mono ?_; rintro e w' ⟨rfl, rfl⟩) | (go_at_call 99; refine (nat_minus _).mono ?_; rintro e w' ⟨rfl, rfl⟩))
  refine bodyPost_ret (v := .tuple #[.agg #[.bool false, .slice none 0 0], .int .i64 2]) (by simp [results, Tryz.results67, go_sem]) rfl ⟨_, rfl, IsInt.zero _ _, (Up.refl w).alloc _⟩
set_option maxRecDepth 100000 in
set_option maxHeartbeats 400000 in
theorem has_seven (w : World) : Calls Tryz.prog 129 #[.string ⟨#[48, 48, 55]⟩, .string ⟨#[45]⟩] w fun e w' => e = .returned (.bool false) ∧ w = w' := by
  go_enter Tryz.func129, Tryz.ntmps129
  go_wp2
  go_ret
  exact ⟨by kernel_rfl, rfl⟩
set_option maxRecDepth 100000 in
set_option maxHeartbeats 400000 in
theorem cut_seven (w : World) : Calls Tryz.prog 126 #[.string ⟨#[48, 48, 55]⟩, .string ⟨#[45]⟩] w fun e w' => e = .returned (.tuple #[.string ⟨#[48, 48, 55]⟩, .bool false]) ∧ w = w' := by
  go_enter Tryz.func126, Tryz.ntmps126
  go_wp2_with (go_at_call 129; refine (has_seven _).mono ?_; rintro e w' ⟨rfl, rfl⟩)
  go_ret2
  exact ⟨rfl, rfl⟩
set_option maxRecDepth 100000 in
set_option maxHeartbeats 400000 in
theorem scut_seven (w : World) : Calls Tryz.prog 98 #[.string ⟨#[48, 48, 55]⟩, .string ⟨#[45]⟩] w fun e w' => e = .returned (.tuple #[.string ⟨#[48, 48, 55]⟩, .bool false]) ∧ w = w' := by
  go_enter Tryz.func98, Tryz.ntmps98
  go_wp2_with (go_at_call 126; refine (cut_seven _).mono ?_; rintro e w' ⟨rfl, rfl⟩)
  go_ret2
  exact ⟨rfl, rfl⟩
set_option maxRecDepth 100000 in
set_option maxHeartbeats 400000 in
theorem nat_seven (w : World) : Calls Tryz.prog 99 #[.string ⟨#[48, 48, 55]⟩] w fun e w' => e = .returned (.bool false) ∧ w = w' := by
  go_enter Tryz.func99, Tryz.ntmps99
  go_wp2
  go_ret
  exact ⟨rfl, rfl⟩
set_option maxRecDepth 100000 in
set_option maxHeartbeats 400000 in
theorem parse_seven (w : World) : Calls Tryz.prog 67 #[.string ⟨#[48, 48, 55]⟩] w (RetNo w) := by
  go_enter Tryz.func67, Tryz.ntmps67
  go_wp2_with (first | (go_at_call 98; refine (scut_seven _).mono ?_; rintro e w' ⟨rfl, rfl⟩) | (go_at_call 99; refine (nat_seven _).mono ?_; rintro e w' ⟨rfl, rfl⟩))
  refine bodyPost_ret (v := .tuple #[.agg #[.bool false, .slice none 0 0], .int .i64 2]) (by simp [results, Tryz.results67, go_sem]) rfl ⟨_, rfl, IsInt.zero _ _, (Up.refl w).alloc _⟩
end Go.Proofs.YtldifgfpecicnaaGreatDoor
