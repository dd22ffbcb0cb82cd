/- Dot of two lists of one fraction, one of them not valid. -/
import Derived.Test.YtldifgfpecicnaaGreatDoorR16
import Derived.Test.YtldifgfpecicnaaGreatDoorR12
import Derived.Test.YtldifgfpecicnaaGreatDoorR8
import Derived.Test.YtldifgfpecicnaaGreatDoorRDec
import Derived.Test.YtldifgfpecicnaaGreatDoorOpen
import Derived.Deep.RegionHeld3
namespace Go.Proofs.YtldifgfpecicnaaGreatDoor
open Go.RowKit

set_option maxRecDepth 100000 in
set_option maxHeartbeats 4000000 in
theorem dot1_ {sp tp : Bool} {Ap Bp : Option Addr} {np cp mp dp gp : Nat} {sq tq : Bool} {Aq Bq : Option Addr} {nq cq mq dq gq : Nat} (w : World)  (hkp : Bk w gp 29 #[.bool sp, .slice Ap np cp, .bool tp, .slice Bp mp dp]) (hkq : Bk w gq 29 #[.bool sq, .slice Aq nq cq, .bool tq, .slice Bq mq dq]) (hN : N2 w (.agg #[.bool sp, .slice Ap np cp, .bool tp, .slice Bp mp dp]) (.agg #[.bool sq, .slice Aq nq cq, .bool tq, .slice Bq mq dq])) :
    Calls Tryz.prog 28 #[.slice (some ⟨gp, 0, none⟩) 1 1, .slice (some ⟨gq, 0, none⟩) 1 1] w (PFE w 0 0 1) := by
  have hupw : Up w w := Up.refl w
  go_enter Tryz.func28, Tryz.ntmps28
  go_wp2_with fail
  obtain ⟨wa1, hwa1⟩ : ∃ x, x = (w.alloc (.cells #[.bool false, .slice none 0 0, .bool false, .slice none 0 0] 29)) := ⟨_, rfl⟩
  have hup : Up w wa1 := by rw [hwa1]; exact ((Up.refl w).alloc _)
  have howa1 : gq < w.heap.size := hkq.lt
  have howb1 : gp < w.heap.size := hkp.lt
  have hzwa1 : w.heap.size ≤ w.heap.size := hupw.size
  replace hkp := hkp.up hup
  replace hkq := hkq.up hup
  replace hN := hN.up hup
  replace hupw := hupw.trans hup
  clear hup
  have hk4 : Bk wa1 (w.heap.size) 29 #[.bool false, .slice none 0 0, .bool false, .slice none 0 0] := by
    have := (Bk.new w 29 #[.bool false, .slice none 0 0, .bool false, .slice none 0 0])
    rw [hwa1]; simpa using this
  rw [← hwa1]
  clear hwa1
  refine wp_loop_rounds 1 ?_
  rw [rounds_succ]
  go_wp2_with fail
  have kkp_0 : wa1.cell? ⟨gp, 0, none⟩ = some (.bool sp) := hkp.cell (i := 0) rfl
  have kkp_1 : wa1.cell? ⟨gp, 1, none⟩ = some (.slice Ap np cp) := hkp.cell (i := 1) rfl
  have kkp_2 : wa1.cell? ⟨gp, 2, none⟩ = some (.bool tp) := hkp.cell (i := 2) rfl
  have kkp_3 : wa1.cell? ⟨gp, 3, none⟩ = some (.slice Bp mp dp) := hkp.cell (i := 3) rfl
  have kkq_0 : wa1.cell? ⟨gq, 0, none⟩ = some (.bool sq) := hkq.cell (i := 0) rfl
  have kkq_1 : wa1.cell? ⟨gq, 1, none⟩ = some (.slice Aq nq cq) := hkq.cell (i := 1) rfl
  have kkq_2 : wa1.cell? ⟨gq, 2, none⟩ = some (.bool tq) := hkq.cell (i := 2) rfl
  have kkq_3 : wa1.cell? ⟨gq, 3, none⟩ = some (.slice Bq mq dq) := hkq.cell (i := 3) rfl
  have hupA : Up wa1 wa1.drew := (Up.refl wa1).drew
  go_region_held3 (fun w' => w'.cell? ⟨gp, 0, none⟩ = some (.bool sp) ∧ w'.cell? ⟨gp, 1, none⟩ = some (.slice Ap np cp) ∧ w'.cell? ⟨gp, 2, none⟩ = some (.bool tp) ∧ w'.cell? ⟨gp, 3, none⟩ = some (.slice Bp mp dp) ∧ w'.cell? ⟨gq, 0, none⟩ = some (.bool sq) ∧ w'.cell? ⟨gq, 1, none⟩ = some (.slice Aq nq cq) ∧ w'.cell? ⟨gq, 2, none⟩ = some (.bool tq) ∧ w'.cell? ⟨gq, 3, none⟩ = some (.slice Bq mq dq))
    (exact ⟨hupA.keep kkp_0, hupA.keep kkp_1, hupA.keep kkp_2, hupA.keep kkp_3, hupA.keep kkq_0, hupA.keep kkq_1, hupA.keep kkq_2, hupA.keep kkq_3⟩)
    (first | (go_at_call 58; refine (bothN (hN.up hupA)).mono ?_; rintro e w2 ⟨rfl, hupx⟩; replace hupA := hupA.trans hupx))
  clear kkp_0 kkp_1 kkp_2 kkp_3 kkq_0 kkq_1 kkq_2 kkq_3
  replace hkp := hkp.up hupA
  replace hkq := hkq.up hupA
  replace hk4 := hk4.up hupA
  replace hN := hN.up hupA
  replace hupw := hupw.trans hupA
  clear hupA
  have hk4c0 := hk4.cell (i := 0) rfl
  have hk4c1 := hk4.cell (i := 1) rfl
  have hk4c2 := hk4.cell (i := 2) rfl
  have hk4c3 := hk4.cell (i := 3) rfl
  have hk4l := hk4.lt
  have hk4f0 := hk4.frozen 0
  have hk4f1 := hk4.frozen 1
  have hk4f2 := hk4.frozen 2
  have hk4f3 := hk4.frozen 3
  go_wp2_with fail
  clear hk4c0 hk4c1 hk4c2 hk4c3 hk4l hk4f0 hk4f1 hk4f2 hk4f3
  obtain ⟨ws3, hws3⟩ : ∃ x, x = (st4 w2 w.heap.size (.bool false) (.slice none 0 0) (.bool false) (.slice none 0 0)) := ⟨_, rfl⟩
  have hN' := hN.st4 hk4 (noU4 _ _ _ _ _ _ _ _) (.bool false) (.slice none 0 0) (.bool false) (.slice none 0 0)
  rw [← hws3] at hN'
  clear hN
  have hN := hN'
  clear hN'
  replace hkp := hkp.far4 (g' := w.heap.size) (by omega) (.bool false) (.slice none 0 0) (.bool false) (.slice none 0 0)
  rw [← hws3] at hkp
  replace hkq := hkq.far4 (g' := w.heap.size) (by omega) (.bool false) (.slice none 0 0) (.bool false) (.slice none 0 0)
  rw [← hws3] at hkq
  replace hupw := hupw.st4 (g := w.heap.size) (by omega) (.bool false) (.slice none 0 0) (.bool false) (.slice none 0 0)
  rw [← hws3] at hupw
  replace hk4 := hk4.four (.bool false) (.slice none 0 0) (.bool false) (.slice none 0 0)
  rw [← hws3] at hk4
  have hszws3 : ws3.heap.size = w2.heap.size := by rw [hws3]; simp [st4]
  unfold st4 at hws3
  rw [← hws3]
  clear hws3
  clear hszws3
  have hk4c0 := hk4.cell (i := 0) rfl
  have hk4c1 := hk4.cell (i := 1) rfl
  have hk4c2 := hk4.cell (i := 2) rfl
  have hk4c3 := hk4.cell (i := 3) rfl
  exact bodyPost_ret (v := .tuple #[.agg #[.bool false, .slice none 0 0, .bool false, .slice none 0 0], .int .i64 1]) (by simp [results, Tryz.results28, go_sem, hk4c0, hk4c1, hk4c2, hk4c3]) rfl ⟨_, rfl, Fz.mk (Iz.zero _) (Iz.zero _), hupw⟩

end Go.Proofs.YtldifgfpecicnaaGreatDoor
