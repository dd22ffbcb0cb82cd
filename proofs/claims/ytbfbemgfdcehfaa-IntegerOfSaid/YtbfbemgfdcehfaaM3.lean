/- For every int64, Of returns the reference's integer, it is valid, and Small returns the number again. No condition. -/
import Derived.Test.YtbfbemgfdcehfaaInv2
import Derived.Test.YtbfbemgfdcehfaaH1
import Derived.Test.YtbfbemgfdcehfaaV1
namespace Go.Proofs.Ytbfbemgfdcehfaa
open Go.RowKit

open Go.ChangeShapes Go.WideShapes Go.ChangeAt

set_option maxHeartbeats 4000000 in
theorem ofW (a : Int) (w : World) (h0 : (Lit.int .i64 a).wf = true) : Calls Try.prog 3 #[.int .i64 a] w fun e w' => e = .returned (.bool true) ∧ Up w w' := by
  have hb := bounds_i64 h0
  have hlo : -9223372036854775808 ≤ a := by omega
  have hhi : a ≤ 9223372036854775807 := by omega
  have HS := hide (sm_ok hlo hhi)
  have HT := hide (i64_top hlo hhi)
  have HLO := hide hlo
  have HHI := hide hhi
  clear hb hlo hhi h0
  go_enter Try.func3, Try.ntmps3
  go_wp2_with fail
  refine (ofI a _ HLO.out HHI.out).mono ?_
  rintro e w1 ⟨v1, rfl, hv1, hup1⟩
  obtain ⟨s1, A1, n1, c1, rfl⟩ := hv1.agg
  go_wp2_with fail
  obtain ⟨wa, hwa⟩ : ∃ x, x = w1.alloc (.cells #[.bool s1, .slice A1 n1 c1] 24) := ⟨_, rfl⟩
  have hk1 : Bk wa w1.heap.size 24 #[.bool s1, .slice A1 n1 c1] := by rw [hwa]; exact Bk.new w1 _ _
  have hupa : Up w1 wa := by rw [hwa]; exact (Up.refl w1).alloc _
  rw [← hwa]
  clear hwa
  have hv1 := hv1.up hupa
  have hupw := hup1.trans hupa
  clear hup1 hupa
  refine (small_any _ _ a _ hv1 HT.out).mono ?_
  rintro e w2 ⟨rfl, hup2⟩
  rw [HS.out.1, HS.out.2]
  have hk1 := hk1.up hup2
  have hv1 := hv1.up hup2
  have hupw := hupw.trans hup2
  have k1 : w2.cell? ⟨w1.heap.size, 0, none⟩ = some (.bool s1) := hk1.cell (i := 0) rfl
  have k2 : w2.cell? ⟨w1.heap.size, 1, none⟩ = some (.slice A1 n1 c1) := hk1.cell (i := 1) rfl
  clear hup2
  go_wp2_with fail
  have hupA : Up w2 w2.drew := (Up.refl w2).drew
  go_region_held3 (fun w' => w'.cell? ⟨w1.heap.size, 0, none⟩ = some (.bool s1) ∧ w'.cell? ⟨w1.heap.size, 1, none⟩ = some (.slice A1 n1 c1))
    (exact ⟨hupA.keep k1, hupA.keep k2⟩)
    (first
      | (go_at_call 12; refine (awake_any _).mono ?_; rintro e wx ⟨rfl, hupx⟩; replace hupA := hupA.trans hupx)
      | (go_at_call 14; refine (rofI a _ HLO.out HHI.out).mono ?_; rintro e wx ⟨vr, rfl, hvr, hupx⟩; replace hupA := hupA.trans hupx)
      | (go_at_call 13; refine (equalI _ _ _ _ a _ (hv1.up hupA) hvr HT.out).mono ?_; rintro e wx ⟨rfl, hupx⟩; replace hupA := hupA.trans hupx)
      | (go_at_call 15; refine (validI_any _ _ a _ (hv1.up hupA) HT.out).mono ?_; rintro e wx ⟨rfl, hupx⟩; replace hupA := hupA.trans hupx))
  go_wp2
  go_ret
  exact ⟨rfl, hupw.trans hupA⟩

set_option maxRecDepth 100000 in
theorem lifted_integerOf (os : Os) (started : os.Started) (H : Type) (enc : TypeId × Value → H) :
    ReturnsInHanded {} Try.checked os 3 .any (Rows.integerOfSpec.pre6 enc Try.prog Try.f3 Rows.integerOfRow.domain false) (Rows.integerOfSpec.post enc Try.prog Try.f3 false true false false) := by
  refine returnsInHanded_of_change (C := Try.checked) ownK started (by kernel_rfl) Try.func3
    (ChangeSpec.witness6 (enc := enc) (C := Try.checked) false ⟨#[], #[.int .i64 0], []⟩ 8 (by kernel_rfl) (by kernel_rfl) (by kernel_rfl) (by kernel_rfl)) ?_
  intro W base args ds gs before hval0 hW hcnd _
  have hval : ∀ (j : Nat) t v, Try.f3.params[j]? = some t → args[j]? = some v → Value.okWide Try.prog W .any base t v := hval0
  have hW' := hW
  obtain ⟨p, q, hA0, hV, rfl, hfz, hnd⟩ := hW
  have hA : DataW.TrodAll enc Try.prog W 0 (fun _ => true) true Try.f3.params.toList args.toList ds p := hA0
  rw [Try.params3] at hA hval
  obtain ⟨v0, vs0, d0, ds0, p0, q0, hargs, rfl, rfl, h0, r0⟩ := trodAll_cons hA
  obtain ⟨rfl, rfl, rfl⟩ := trodAll_nil r0
  obtain rfl : args = #[v0] := by cases args; simp_all
  obtain ⟨rfl, rfl⟩ := trodVars_none hV
  obtain ⟨a0, rfl, rfl, rfl, w0⟩ := open_int Try.underlying2 (hval 0 2 v0 rfl rfl) h0
  clear hA0 hval0
  refine (ofW a0 W w0).mono fun e W' ⟨he, bel0⟩ => ?_
  have bel : Below W.heap.size W W' := bel0
  subst he
  exact ⟨_, rfl, _, _, _, [], _, [], hW', trodAll_mk1 (shut_bool Try.underlying4 _), (trodAll_cons_mk (shut_int Try.underlying2 w0) trodAll_mk0), rfl, bel.frame _, fun h => by cases h⟩

theorem over_integerOf : Rows.integerOfRow.holds Try.pinned (OpenSpec.ofChange Rows.integerOfSpec) :=
  OpenClaim.holds_of_wide 3 Try.f3 rfl rfl rfl rfl rfl rfl rfl ⟨rfl, rfl, rfl, rfl, rfl⟩ rfl rfl rfl rfl rfl (by kernel_rfl) Try.func3 (by kernel_rfl)
    (of_decide_eq_true (by kernel_rfl)) (by unfold Func.isWrapper; first | (rw [if_pos (by decide +kernel)]; kernel_rfl) | (rw [if_neg (by decide +kernel)]; exact ⟨rfl, rfl⟩))
    (fun os started H enc _ => lifted_integerOf os started H enc)

theorem integerOf_holds : Rows.IntegerOfSaid := over_integerOf
end Go.Proofs.Ytbfbemgfdcehfaa
