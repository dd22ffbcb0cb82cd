/- The reference's Small. -/
import Derived.Test.YtijcijdgpeolhaaDoorV1
import Derived.Test.YtijcijdgpeolhaaDoorH0
import Derived.Test.YtijcijdgpeolhaaDoorC5
namespace Go.Proofs.YtijcijdgpeolhaaDoor
open Go.RowKit

theorem cmpZ_lt {x y : Int} (h : x < y) : cmpZ x y = -1 := by unfold cmpZ; rw [if_pos h]
theorem cmpZ_gt {x y : Int} (h : y < x) : cmpZ x y = 1 := by unfold cmpZ; rw [if_neg (by omega), if_pos h]
theorem cmpZ_ge {x y : Int} (h : y ≤ x) : ¬ cmpZ x y < 0 := by unfold cmpZ; rw [if_neg (by omega)]; split <;> omega
theorem cmpZ_le {x y : Int} (h : x ≤ y) : ¬ 0 < cmpZ x y := by unfold cmpZ; split; · omega
                                                               · rw [if_neg (by omega)]; omega
set_option maxHeartbeats 2000000 in
theorem rsmall_lt (B : Nat) (v : Value) (x : Int) (w : World) (hv : IsInt B w v x) (hx : x.natAbs < top300) (hs : x < -9223372036854775808) : Calls Tryd.prog 11 #[v] w (RetSmall w x) := by
  have HV := hide (sm_no (z := x) (by omega))
  have HC1 := hide (cmpZ_lt hs)
  have hv0 := hv
  obtain ⟨s, A, n, c, rfl, Hs, Hn, hl, hc, _⟩ := hv
  clear hs
  obtain ⟨w0, hw0⟩ : ∃ w0, w0 = (w.alloc (.cells #[.bool s, .slice A n c] 25)) := ⟨_, rfl⟩
  have hb1 : Bk w0 (w.heap.size) 25 #[.bool s, .slice A n c] := by
    have := Bk.new w 25 #[.bool s, .slice A n c]
    rw [hw0]; simpa using this
  have hup0 : Up w w0 := by rw [hw0]; exact (Up.refl w).alloc _
  have Hw0 := hide hw0
  clear hw0
  have e1a := hb1.cell (i := 0) rfl
  have e1b := hb1.cell (i := 1) rfl
  go_enter Tryd.func11, Tryd.ntmps11
  go_wp2_with fail
  rw [← Hw0.out]
  have hupA : Up w w0.drew := hup0.drew
  have hupB : Up w0 w0.drew := (Up.refl w0).drew
  have ca : w0.drew.cell? ⟨w.heap.size, 0, none⟩ = some (.bool s) := hupB.keep e1a
  have cb : w0.drew.cell? ⟨w.heap.size, 1, none⟩ = some (.slice A n c) := hupB.keep e1b
  go_region_with
    (first
      | (go_at_call 20; refine (rofI _ _ (by decide) (by decide)).mono ?_; rintro e w2 ⟨v2, rfl, hvz, hupz⟩; replace hupA := hupA.trans hupz; replace ca : w2.cell? ⟨w.heap.size, 0, none⟩ = some (.bool s) := hupz.keep ca; replace cb : w2.cell? ⟨w.heap.size, 1, none⟩ = some (.slice A n c) := hupz.keep cb)
      | (go_at_call 34; refine (rcmpI_any _ _ _ _ x _ _ (hv0.up hupA) hvz hx (i64_top (by decide) (by decide))).mono ?_; rintro e w3 ⟨rfl, hupz⟩; rw [HC1.out]; replace hupA := hupA.trans hupz))
  all_goals
    go_wp2
    go_ret2
    exact ⟨by rw [HV.out.1, HV.out.2]; rfl, hupA⟩
set_option maxHeartbeats 2000000 in
theorem rsmall_gt (B : Nat) (v : Value) (x : Int) (w : World) (hv : IsInt B w v x) (hx : x.natAbs < top300) (hs : 9223372036854775807 < x) : Calls Tryd.prog 11 #[v] w (RetSmall w x) := by
  have HV := hide (sm_no (z := x) (by omega))
  obtain ⟨z1, hz1⟩ : ∃ z1, z1 = cmpZ x (-9223372036854775808) := ⟨_, rfl⟩
  have hzn : decide (z1 < 0) = false := decide_eq_false (by rw [hz1]; exact cmpZ_ge (by omega))
  have HC1 := hide hz1.symm
  have HC2 := hide (cmpZ_gt hs)
  clear hz1
  have hv0 := hv
  obtain ⟨s, A, n, c, rfl, Hs, Hn, hl, hc, _⟩ := hv
  clear hs
  obtain ⟨w0, hw0⟩ : ∃ w0, w0 = (w.alloc (.cells #[.bool s, .slice A n c] 25)) := ⟨_, rfl⟩
  have hb1 : Bk w0 (w.heap.size) 25 #[.bool s, .slice A n c] := by
    have := Bk.new w 25 #[.bool s, .slice A n c]
    rw [hw0]; simpa using this
  have hup0 : Up w w0 := by rw [hw0]; exact (Up.refl w).alloc _
  have Hw0 := hide hw0
  clear hw0
  have e1a := hb1.cell (i := 0) rfl
  have e1b := hb1.cell (i := 1) rfl
  go_enter Tryd.func11, Tryd.ntmps11
  go_wp2_with fail
  rw [← Hw0.out]
  have hupA : Up w w0.drew := hup0.drew
  have hupB : Up w0 w0.drew := (Up.refl w0).drew
  have ca : w0.drew.cell? ⟨w.heap.size, 0, none⟩ = some (.bool s) := hupB.keep e1a
  have cb : w0.drew.cell? ⟨w.heap.size, 1, none⟩ = some (.slice A n c) := hupB.keep e1b
  go_region_with
    (first
      | (go_at_call 20; refine (rofI _ _ (by decide) (by decide)).mono ?_; rintro e w2 ⟨v2, rfl, hvz, hupz⟩; replace hupA := hupA.trans hupz; replace ca : w2.cell? ⟨w.heap.size, 0, none⟩ = some (.bool s) := hupz.keep ca; replace cb : w2.cell? ⟨w.heap.size, 1, none⟩ = some (.slice A n c) := hupz.keep cb)
      | (go_at_call 34; refine (rcmpI_any _ _ _ _ x _ _ (hv0.up hupA) hvz hx (i64_top (by decide) (by decide))).mono ?_; rintro e w3 ⟨rfl, hupz⟩; (first | rw [HC1.out] | rw [HC2.out]); replace hupA := hupA.trans hupz; replace ca : w3.cell? ⟨w.heap.size, 0, none⟩ = some (.bool s) := hupz.keep ca; replace cb : w3.cell? ⟨w.heap.size, 1, none⟩ = some (.slice A n c) := hupz.keep cb))
  all_goals
    go_wp2
    go_ret2
    exact ⟨by rw [HV.out.1, HV.out.2]; rfl, hupA⟩
end Go.Proofs.YtijcijdgpeolhaaDoor
