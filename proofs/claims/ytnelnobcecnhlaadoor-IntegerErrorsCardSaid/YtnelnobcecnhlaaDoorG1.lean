/- The program's Parse at two texts that it refuses. -/
import Derived.Test.YtnelnobcecnhlaaDoorBase4
namespace Go.Proofs.YtnelnobcecnhlaaDoor
open Go.RowKit

set_option maxHeartbeats 400000 in
theorem has_minus (w : World) : Calls Tryd.prog 80 #[.string ⟨#[45, 48]⟩, .string ⟨#[45]⟩] w fun e w' => e = .returned (.bool true) ∧ w = w' := by
  go_enter Tryd.func80, Tryd.ntmps80
  go_wp2
  go_ret
  exact ⟨by kernel_rfl, rfl⟩
set_option maxHeartbeats 400000 in
theorem cut_minus (w : World) : Calls Tryd.prog 60 #[.string ⟨#[45, 48]⟩, .string ⟨#[45]⟩] w fun e w' => e = .returned (.tuple #[.string ⟨#[48]⟩, .bool true]) ∧ w = w' := by
  go_enter Tryd.func60, Tryd.ntmps60
  go_wp2_with (go_at_call 80; refine (has_minus _).mono ?_; rintro e w' ⟨rfl, rfl⟩)
  go_ret2
  exact ⟨rfl, rfl⟩
set_option maxHeartbeats 400000 in
theorem scut_minus (w : World) : Calls Tryd.prog 33 #[.string ⟨#[45, 48]⟩, .string ⟨#[45]⟩] w fun e w' => e = .returned (.tuple #[.string ⟨#[48]⟩, .bool true]) ∧ w = w' := by
  go_enter Tryd.func33, Tryd.ntmps33
  go_wp2_with (go_at_call 60; refine (cut_minus _).mono ?_; rintro e w' ⟨rfl, rfl⟩)
  go_ret2
  exact ⟨rfl, rfl⟩
set_option maxHeartbeats 400000 in
theorem nat_minus (w : World) : Calls Tryd.prog 34 #[.string ⟨#[48]⟩] w fun e w' => e = .returned (.bool false) ∧ w = w' := by
  go_enter Tryd.func34, Tryd.ntmps34
  go_wp2
  go_ret
  exact ⟨rfl, rfl⟩
/-- The text is refused. -/
def RetNo (w : World) (e : Ending) (w' : World) : Prop := ∃ v, e = .returned (.tuple #[v, .int .i64 2]) ∧ IsInt w.heap.size w' v 0 ∧ Up w w'
set_option maxHeartbeats 400000 in
theorem parse_minus (w : World) : Calls Tryd.prog 10 #[.string ⟨#[45, 48]⟩] w (RetNo w) := by
  go_enter Tryd.func10, Tryd.ntmps10
  go_wp2_with (first | (go_at_call 33; refine (scut_minus _).mono ?_; rintro e w' ⟨rfl, rfl⟩) | (go_at_call 34; refine (nat_minus _).mono ?_; rintro e w' ⟨rfl, rfl⟩))
  refine bodyPost_ret (v := .tuple #[.agg #[.bool false, .slice none 0 0], .int .i64 2]) (by simp [results, Tryd.results10, go_sem]) rfl ⟨_, rfl, IsInt.zero _ _, (Up.refl w).alloc _⟩
set_option maxHeartbeats 400000 in
theorem has_seven (w : World) : Calls Tryd.prog 80 #[.string ⟨#[48, 48, 55]⟩, .string ⟨#[45]⟩] w fun e w' => e = .returned (.bool false) ∧ w = w' := by
  go_enter Tryd.func80, Tryd.ntmps80
  go_wp2
  go_ret
  exact ⟨by kernel_rfl, rfl⟩
set_option maxHeartbeats 400000 in
theorem cut_seven (w : World) : Calls Tryd.prog 60 #[.string ⟨#[48, 48, 55]⟩, .string ⟨#[45]⟩] w fun e w' => e = .returned (.tuple #[.string ⟨#[48, 48, 55]⟩, .bool false]) ∧ w = w' := by
  go_enter Tryd.func60, Tryd.ntmps60
  go_wp2_with (go_at_call 80; refine (has_seven _).mono ?_; rintro e w' ⟨rfl, rfl⟩)
  go_ret2
  exact ⟨rfl, rfl⟩
set_option maxHeartbeats 400000 in
theorem scut_seven (w : World) : Calls Tryd.prog 33 #[.string ⟨#[48, 48, 55]⟩, .string ⟨#[45]⟩] w fun e w' => e = .returned (.tuple #[.string ⟨#[48, 48, 55]⟩, .bool false]) ∧ w = w' := by
  go_enter Tryd.func33, Tryd.ntmps33
  go_wp2_with (go_at_call 60; refine (cut_seven _).mono ?_; rintro e w' ⟨rfl, rfl⟩)
  go_ret2
  exact ⟨rfl, rfl⟩
set_option maxHeartbeats 400000 in
theorem nat_seven (w : World) : Calls Tryd.prog 34 #[.string ⟨#[48, 48, 55]⟩] w fun e w' => e = .returned (.bool false) ∧ w = w' := by
  go_enter Tryd.func34, Tryd.ntmps34
  go_wp2
  go_ret
  exact ⟨rfl, rfl⟩
set_option maxHeartbeats 400000 in
theorem parse_seven (w : World) : Calls Tryd.prog 10 #[.string ⟨#[48, 48, 55]⟩] w (RetNo w) := by
  go_enter Tryd.func10, Tryd.ntmps10
  go_wp2_with (first | (go_at_call 33; refine (scut_seven _).mono ?_; rintro e w' ⟨rfl, rfl⟩) | (go_at_call 34; refine (nat_seven _).mono ?_; rintro e w' ⟨rfl, rfl⟩))
  refine bodyPost_ret (v := .tuple #[.agg #[.bool false, .slice none 0 0], .int .i64 2]) (by simp [results, Tryd.results10, go_sem]) rfl ⟨_, rfl, IsInt.zero _ _, (Up.refl w).alloc _⟩
end Go.Proofs.YtnelnobcecnhlaaDoor
