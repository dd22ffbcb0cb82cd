/- Walks: functions of whole integers that only read: the reference's Equal, Sign, Few; the program's signed. -/
import Derived.Test.YtijcijdgpeolhaaDoorA1
namespace Go.Proofs.YtijcijdgpeolhaaDoor
open Go.RowKit

set_option maxHeartbeats 1000000 in
theorem equal_any (s : Bool) (A B : Option Addr) (c d n : Nat) (l : List Nat) (w : World) (hA : Lim w A l) (hB : Lim w B l) (hw : W32 l) (Hn : Hid (n = l.length)) (hn : n ≤ 1000000) :
    Calls Tryd.prog 13 #[.agg #[.bool s, .slice A n c], .agg #[.bool s, .slice B n d]] w fun e w' => e = .returned (.bool true) ∧ Up w w' := by
  have hs : (s != s) = false := by simp
  go_enter Tryd.func13, Tryd.ntmps13
  go_wp2
  go_loopw [5] (fun i wr => ∃ k : Nat, k ≤ n ∧ i = .int .i64 k ∧ Up w wr ∧ wr.cell? ⟨w.heap.size, 1, none⟩ = some (.slice A n c) ∧ wr.cell? ⟨w.heap.size + 1, 1, none⟩ = some (.slice B n d)) (fun i _ => n - (intOf i).toNat)
  case atStart => exact ⟨0, by omega, rfl, ((Up.refl w).alloc _).alloc _, by go_simp, by go_simp⟩
  case round =>
    obtain ⟨k, hk, rfl, hup, hc1, hc2⟩ := hrel
    by_cases hlt : k < n
    · obtain ⟨ad, rfl, hb, hcell⟩ := (hA.up hup).at_ (k := k) (by have := Hn.out; omega)
      obtain ⟨bd, rfl, hb2, hcell2⟩ := (hB.up hup).at_ (k := k) (by have := Hn.out; omega)
      have hx := W32.getD hw k
      obtain ⟨x, hxe⟩ : ∃ x, x = l.getD k 0 := ⟨_, rfl⟩
      rw [← hxe] at hcell hcell2 hx
      have hq : ((x : Int) != (x : Int)) = false := by simp
      clear hxe hw hA hB
      go_wp2
      go_quiet (fail)
      go_wp2
      go_roundw
      case rel => exact ⟨k + 1, by omega, by go_num, hup.drewN _, by go_simp, by go_simp⟩
      case measure => simp [intOf]; omega
    · obtain rfl : k = n := by omega
      go_wp2
      go_ret
      exact ⟨rfl, hup⟩

set_option maxHeartbeats 400000 in
theorem rsign_any (s : Bool) (A : Option Addr) (c n : Nat) (w : World) (_hn : n ≤ 1000000) :
    Calls Tryd.prog 54 #[.agg #[.bool s, .slice A n c]] w fun e w' => e = .returned (.int .i64 (if n = 0 then 0 else if s then -1 else 1)) ∧ Up w w' := by
  by_cases hz : n = 0
  · subst hz
    go_enter Tryd.func54, Tryd.ntmps54
    go_wp2
    go_ret
    exact ⟨rfl, (Up.refl w).alloc _⟩
  · have hz0 : ((n : Int) == 0) = false := by rw [beq_eq_false_iff_ne]; omega
    rw [if_neg hz]
    cases s
    · go_enter Tryd.func54, Tryd.ntmps54
      go_wp2
      go_ret
      exact ⟨rfl, (Up.refl w).alloc _⟩
    · go_enter Tryd.func54, Tryd.ntmps54
      go_wp2
      go_ret
      exact ⟨rfl, (Up.refl w).alloc _⟩

set_option maxHeartbeats 400000 in
theorem signed_any (s : Bool) (A : Option Addr) (c n : Nat) (w : World) (hn : n ≤ 1000000) :
    Calls Tryd.prog 29 #[.bool s, .slice A n c] w fun e w' => e = .returned (.agg #[.bool (s && decide (0 < n)), .slice A n c]) ∧ Up w w' := by
  by_cases hz : n = 0
  · subst hz
    cases s <;> (
      go_enter Tryd.func29, Tryd.ntmps29
      go_wp2
      exact bodyPost_ret (v := .agg #[.bool false, .slice A 0 c]) (by simp [results, Tryd.results29, go_sem]) rfl ⟨rfl, (Up.refl w).alloc _⟩)
  · have hd : decide (0 < n) = true := by simp; omega
    rw [hd]
    cases s
    · go_enter Tryd.func29, Tryd.ntmps29
      go_wp2
      exact bodyPost_ret (v := .agg #[.bool false, .slice A n c]) (by simp [results, Tryd.results29, go_sem]) rfl ⟨rfl, (Up.refl w).alloc _⟩
    · go_enter Tryd.func29, Tryd.ntmps29
      go_wp2
      exact bodyPost_ret (v := .agg #[.bool true, .slice A n c]) (by simp [results, Tryd.results29, go_sem]) rfl ⟨rfl, (Up.refl w).alloc _⟩
end Go.Proofs.YtijcijdgpeolhaaDoor
