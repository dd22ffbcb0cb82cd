/- Walks: names, and what string literals mean. -/
import Derived.Test.YtnhncakkbfjdjaaDoorWi
namespace Go.Proofs.YtnhncakkbfjdjaaDoor
open Go.RowKit

theorem fld0 (k : Int) (b c d e : Value) (w : World) : (Instr.field 30 (.agg #[.int .i64 k, b, c, d, e]) 0).run Tryd.prog w = .ok (.int .i64 k) w := by
  unfold Instr.field
  simp [run_underlying Tryd.underlying30, go_sem, asAgg]
def nam (l : List Nat) : Bool := (whl l).kind == 1
def unq (l : List Nat) : Option (List Nat) := if (whl l).kind = 3 then some (whl l).str else none
/-- A function that returns a bool. -/
def RetB (w : World) (b : Bool) (e : Ending) (w' : World) : Prop := e = .returned (.bool b) ∧ Up w w'
/-- A function that returns a string and an error. -/
def RetS (w : World) (x : Option (List Nat)) (e : Ending) (w' : World) : Prop := e = .returned (.tuple #[.string (bs (x.getD [])), .int .i64 (if x.isSome then 0 else 2)]) ∧ Up w w'
set_option maxRecDepth 100000 in
set_option maxHeartbeats 2000000 in
theorem isName_any (s : ByteArray) (w : World) (hTab : Tabs w) (hs : s.size ≤ 100000) : Calls Tryd.prog 21 #[.string s] w (RetB w (nam (by_ s))) := by
  have HTab := hide hTab
  clear hTab
  obtain ⟨x, Hx⟩ : ∃ x, Hid (x = whl (by_ s)) := ⟨_, rfl⟩
  have Hw : Hid (nam (by_ s) = (x.kind == 1)) := by show _ = _; unfold nam; rw [Hx.out]
  go_enter Tryd.func21, Tryd.ntmps21
  go_wp2_with fail
  refine (whole_any s _ HTab.out hs).mono ?_
  rw [← Hx.out]
  rintro e w2 ⟨rfl, hu⟩
  obtain ⟨kd, tx, nn, st⟩ := x
  unfold tkv
  have Hw : Hid (nam (by_ s) = (kd == 1)) := Hw
  have f0 := fld0 (kd : Int) (.string (bs tx)) (.int .i64 nn) (.string (bs st)) (.int .i64 0) w2
  go_wp2
  go_ret
  exact ⟨ret_bool (by rw [Hw.out, Bool.eq_iff_iff]; simp; omega), hu⟩
set_option maxRecDepth 100000 in
set_option maxHeartbeats 2000000 in
theorem unquote_any (s : ByteArray) (w : World) (hTab : Tabs w) (hs : s.size ≤ 100000) : Calls Tryd.prog 18 #[.string s] w (RetS w (unq (by_ s))) := by
  have HTab := hide hTab
  clear hTab
  obtain ⟨x, Hx⟩ : ∃ x, Hid (x = whl (by_ s)) := ⟨_, rfl⟩
  have Hw : Hid (unq (by_ s) = if x.kind = 3 then some x.str else none) := by show _ = _; unfold unq; rw [Hx.out]
  obtain ⟨kd, tx, nn, st⟩ := x
  by_cases h3 : kd = 3
  · have HT : Hid (unq (by_ s) = some st) := by show _ = _; rw [Hw.out]; exact if_pos h3
    have e1 : ((kd : Int) == 3) = true := by rw [h3]; rfl
    have e2 : ((kd : Int) != 3) = false := by rw [h3]; rfl
    clear h3
    go_enter Tryd.func18, Tryd.ntmps18
    go_wp2_with fail
    refine (whole_any s _ HTab.out hs).mono ?_
    rw [← Hx.out]
    rintro e w2 ⟨rfl, hu⟩
    unfold tkv
    go_wp2
    go_ret2
    exact ⟨by rw [HT.out]; rfl, hu.alloc _⟩
  · have HT : Hid (unq (by_ s) = none) := by show _ = _; rw [Hw.out]; exact if_neg h3
    have e1 : ((kd : Int) == 3) = false := by rw [beq_eq_false_iff_ne]; omega
    have e2 : ((kd : Int) != 3) = true := by unfold bne; rw [e1]; rfl
    clear h3
    go_enter Tryd.func18, Tryd.ntmps18
    go_wp2_with fail
    refine (whole_any s _ HTab.out hs).mono ?_
    rw [← Hx.out]
    rintro e w2 ⟨rfl, hu⟩
    unfold tkv
    go_wp2
    go_ret2
    exact ⟨by rw [HT.out]; rfl, hu.alloc _⟩
end Go.Proofs.YtnhncakkbfjdjaaDoor
