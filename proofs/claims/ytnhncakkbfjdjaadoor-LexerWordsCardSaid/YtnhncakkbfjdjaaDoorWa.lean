/- Walks: the kinds of characters. -/
import Derived.Test.YtnhncakkbfjdjaaDoorStr
namespace Go.Proofs.YtnhncakkbfjdjaaDoor
open Go.RowKit

theorem ret_bool {a b : Bool} (h : a = b) : Ending.returned (.bool a) = .returned (.bool b) := by rw [h]
/-- A function of a byte that tells its kind. -/
def Kind1 (g : Nat) (p : Nat → Bool) : Prop := ∀ (c : Nat) (w : World), c < 256 → Calls Tryd.prog g #[.int .u8 (c : Int)] w fun e w' => e = .returned (.bool (p c)) ∧ w = w'
theorem isL_any : Kind1 49 isL := by
  intro c w hc
  go_enter Tryd.func49, Tryd.ntmps49
  go_wp2
  all_goals (go_ret; refine ⟨ret_bool ?_, rfl⟩; unfold isL; rw [Bool.eq_iff_iff]; simp; omega)
theorem isD_any : Kind1 51 isD := by
  intro c w hc
  go_enter Tryd.func51, Tryd.ntmps51
  go_wp2
  all_goals (go_ret; refine ⟨ret_bool ?_, rfl⟩; unfold isD; rw [Bool.eq_iff_iff]; simp; omega)
theorem isP_any : Kind1 57 isP := by
  intro c w hc
  go_enter Tryd.func57, Tryd.ntmps57
  go_wp2
  all_goals (go_ret; refine ⟨ret_bool ?_, rfl⟩; unfold isP; rw [Bool.eq_iff_iff]; simp; omega)
theorem risL_any : Kind1 37 isL := by
  intro c w hc
  go_enter Tryd.func37, Tryd.ntmps37
  go_wp2
  all_goals (go_ret; refine ⟨ret_bool ?_, rfl⟩; unfold isL; rw [Bool.eq_iff_iff]; simp; omega)
theorem risD_any : Kind1 38 isD := by
  intro c w hc
  go_enter Tryd.func38, Tryd.ntmps38
  go_wp2
  all_goals (go_ret; refine ⟨ret_bool ?_, rfl⟩; unfold isD; rw [Bool.eq_iff_iff]; simp; omega)
theorem risW_any : Kind1 31 isW := by
  intro c w hc
  go_enter Tryd.func31, Tryd.ntmps31
  go_wp2
  all_goals (go_ret; refine ⟨ret_bool ?_, rfl⟩; unfold isW; rw [Bool.eq_iff_iff]; simp; omega)
theorem isLD_any : Kind1 69 isLD := by
  intro c w hc
  have hL := Lib.hid (rfl : isL c = isL c)
  by_cases h : isL c = true
  · have H := Lib.hid h
    clear h
    go_enter Tryd.func69, Tryd.ntmps69
    go_wp2_with fail
    refine (isL_any c _ hc).mono ?_
    rw [H.out]
    rintro e w' ⟨rfl, rfl⟩
    go_wp2
    go_ret
    exact ⟨ret_bool (by unfold isLD; rw [H.out]; rfl), rfl⟩
  · have H := Lib.hid (Bool.eq_false_iff.2 h)
    clear h
    go_enter Tryd.func69, Tryd.ntmps69
    go_wp2_with fail
    refine (isL_any c _ hc).mono ?_
    rw [H.out]
    rintro e w' ⟨rfl, rfl⟩
    go_wp2_with fail
    refine (isD_any c _ hc).mono ?_
    rintro e w' ⟨rfl, rfl⟩
    go_wp2
    all_goals (go_ret; exact ⟨ret_bool (by unfold isLD; rw [H.out]; first | rfl | simp_all), rfl⟩)
end Go.Proofs.YtnhncakkbfjdjaaDoor
