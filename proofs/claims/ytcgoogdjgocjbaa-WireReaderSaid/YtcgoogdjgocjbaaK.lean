/- What the laws' awake returns. -/
import Derived.Test.YtcgoogdjgocjbaaI
import Derived.Test.YtcgoogdjgocjbaaJ
namespace Go.Proofs.Ytcgoogdjgocjbaa
open Go.RowKit

theorem vi_300 : bs (vi 300) = ⟨#[172, 2]⟩ := by rw [vi_big (by decide), vi_small (by decide)]; rfl
theorem cs_ab : bs (cs ⟨#[97, 98]⟩) = ⟨#[2, 97, 98]⟩ := by
  unfold cs
  rw [show (⟨#[97, 98]⟩ : ByteArray).size = 2 from rfl, vi_small (by decide)]; rfl
theorem cd_ab : cd cs [⟨#[97, 98]⟩, ⟨#[]⟩] = [2, 2, 97, 98, 0] := by
  unfold cd cs
  simp only [List.map_cons, List.map_nil, List.length_cons, List.length_nil]
  rw [show (⟨#[97, 98]⟩ : ByteArray).size = 2 from rfl, show (⟨#[]⟩ : ByteArray).size = 0 from rfl, vi_small (by decide), vi_small (by decide)]; rfl
theorem cd_12 : cd ci [-1, 2] = [2, 1, 4] := by
  unfold cd ci
  simp only [List.map_cons, List.map_nil, List.length_cons, List.length_nil]
  rw [show zz (-1) = 1 from rfl, show zz 2 = 4 from rfl, vi_small (by decide), vi_small (by decide), vi_small (by decide)]; rfl
theorem vals_two (w : World) (x y : Value) (t : TypeId) : Vals (w.alloc (.cells #[x, y] t)) (some ⟨w.heap.size, 0, none⟩) [x, y] :=
  Or.inr ⟨_, rfl, by simp, fun j u hj => by
    match j, hj with
    | 0, hj => simp at hj; subst hj; simp [Addr.add]
    | 1, hj => simp at hj; subst hj; simp [Addr.add]⟩
theorem st1 : nv 0 gi ⟨#[5, 1, 97]⟩ 0 = -3 ∧ nx gi ⟨#[5, 1, 97]⟩ 0 = (⟨#[1, 97]⟩, 0) := ⟨by kernel_rfl, by kernel_rfl⟩
theorem st2 : nv ⟨#[]⟩ gs ⟨#[1, 97]⟩ 0 = ⟨#[97]⟩ ∧ nx gs ⟨#[1, 97]⟩ 0 = (⟨#[]⟩, 0) := ⟨by kernel_rfl, by kernel_rfl⟩

set_option maxRecDepth 1000000 in
set_option maxHeartbeats 4000000 in
theorem awake_any (w : World) : Calls Try.prog 12 #[] w fun e w' => e = .returned (.bool true) ∧ Up w w' := by
  go_enter Try.func12, Try.ntmps12
  go_wp2_with fail
  refine (get_any ⟨#[172, 130, 0]⟩ _ (by decide)).mono ?_
  rintro e w1 ⟨rfl, rfl⟩
  rw [show gt ⟨#[172, 130, 0]⟩ = (0, 0, 2) by rfl]
  go_wp2_with fail
  refine (newr_any _ _).mono ?_
  rintro e w1 ⟨rfl, hw1⟩
  have hr1 : Rdr w1 w.heap.size ⟨#[5, 1, 97]⟩ 0 := by rw [hw1]; exact Rdr.new w _ _
  have hu1 : Up w w1 := by rw [hw1]; exact (Up.refl w).alloc _
  clear hw1
  go_wp2_with fail
  refine (put_any 300 _ (by decide)).mono ?_
  rintro e w2 ⟨rfl, hu2⟩
  rw [vi_300]
  go_wp2_with fail
  refine (ps_any _ _ (by decide)).mono ?_
  rintro e w3 ⟨rfl, hu3⟩
  rw [cs_ab]
  go_wp2_with fail
  refine (plist_any _ 2 2 [⟨#[97, 98]⟩, ⟨#[]⟩] _ (vals_two w3 _ _ _) rfl (by decide) (by rw [cd_ab]; decide)).mono ?_
  rintro e w4 ⟨rfl, hu4⟩
  rw [cd_ab, show bs [2, 2, 97, 98, 0] = ⟨#[2, 2, 97, 98, 0]⟩ from rfl]
  have hu4' : Up w3 w4 := ((Up.refl w3).alloc _).trans hu4
  clear hu4
  go_wp2_with fail
  refine (pints_any _ 2 2 [-1, 2] _ (vals_two w4 _ _ _) rfl (by decide) (by rw [cd_12]; decide) (by unfold I64; decide)).mono ?_
  rintro e w5 ⟨rfl, hu5⟩
  rw [cd_12, show bs [2, 1, 4] = ⟨#[2, 1, 4]⟩ from rfl]
  have hu5' : Up w4 w5 := ((Up.refl w4).alloc _).trans hu5
  clear hu5
  have hu15 : Up w1 w5 := ((hu2.trans hu3).trans hu4').trans hu5'
  have hr5 := hr1.up hu15
  clear hr1
  go_wp2_with fail
  refine (rInt_any _ _ 0 _ (by decide) hr5).mono ?_
  rw [st1.1, st1.2]
  rintro e w6 ⟨rfl, hr6, hb6⟩
  go_wp2_with fail
  refine (rStr_any _ _ 0 _ (by decide) hr6).mono ?_
  rw [st2.1, st2.2]
  rintro e w7 ⟨rfl, hr7, hb7⟩
  go_wp2_with fail
  refine (rEnd_any _ _ 0 _ hr7).mono ?_
  rintro e w8 ⟨rfl, rfl⟩
  rw [show en ⟨#[]⟩ 0 = 0 from rfl]
  go_wp2
  go_ret
  exact ⟨rfl, Below.trans (Below.trans (hu1.trans hu15) (grown_below hb6 (Nat.le_refl _) (hu1.trans hu15).size)) (grown_below hb7 (Nat.le_refl _) (Nat.le_trans (hu1.trans hu15).size hb6.size))⟩
end Go.Proofs.Ytcgoogdjgocjbaa
