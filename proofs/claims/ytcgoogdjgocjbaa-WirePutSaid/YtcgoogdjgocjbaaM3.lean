/- For every 64-bit number and every string behind it, Put returns the varint of the reference and Get restores the number (asked up to 100 bytes behind it, as the law does). No condition. -/
import Derived.Test.YtcgoogdjgocjbaaL
import Derived.Test.YtcgoogdjgocjbaaK
import Derived.Test.YtcgoogdjgocjbaaH
namespace Go.Proofs.Ytcgoogdjgocjbaa
open Go.RowKit

open Go.ChangeShapes Go.WideShapes Go.ChangeAt
theorem gt_vi (n : Nat) (rest : ByteArray) (hn : n < 18446744073709551616) : gt (bs (vi n) ++ rest) = (n, (bs (vi n)).size, 0) := by
  unfold gt
  rw [by_append, by_bs _ (vi_byte n), rd_vi n _ 0 0 (by omega) (by omega) (by omega), bs_size]
  simp
set_option maxRecDepth 1000000 in
set_option maxHeartbeats 4000000 in
theorem putW (a : Int) (rest : ByteArray) (w : World) (ha : (Lit.int .u64 a).wf = true) (hs : rest.size ≤ maxLen) : Calls Try.prog 3 #[.int .u64 a, .string rest] w fun e w' => e = .returned (.bool true) ∧ Up w w' := by
  have ha' := u64_wf ha
  obtain ⟨n, rfl⟩ : ∃ n : Nat, a = n := ⟨a.toNat, by omega⟩
  have hn : n < 18446744073709551616 := by omega
  clear ha ha'
  unfold maxLen at hs
  by_cases hlim : rest.size ≤ 100
  · have hg := gt_vi n rest hn
    have ht : (bs (vi n)).size ≤ 10 := by rw [bs_size]; exact vi_len10 hn
    have hc1 := fun w => put_any n w hn
    have hc2 := fun w => rput_any n w hn
    obtain ⟨t, htt⟩ : ∃ t, t = bs (vi n) := ⟨_, rfl⟩
    rw [← htt] at hg ht hc1 hc2
    clear htt
    have hadd : ∀ w : World, (Op.stringOp .add t rest).run Try.prog w = .ok (.string (t ++ rest)) w := fun w => run_string_add_sum w _ _ (by omega)
    have hc3 := fun w => get_any (t ++ rest) w (by rw [ByteArray.size_append]; omega)
    unfold RetGet at hc3
    rw [hg] at hc3
    dsimp only at hc3
    clear hg
    go_enter Try.func3, Try.ntmps3
    go_wp2_with (first | (go_at_call 12; refine (awake_any _).mono ?_; rintro e w1 ⟨rfl, hu1⟩) | (go_at_call 13; refine (hc1 _).mono ?_; rintro e w2 ⟨rfl, hu2⟩) | (go_at_call 14; refine (hc3 _).mono ?_; rintro e w3 ⟨rfl, rfl⟩) | (go_at_call 15; refine (hc2 _).mono ?_; rintro e w4 ⟨rfl, hu4⟩))
    go_ret
    exact ⟨rfl, (hu1.trans hu2).trans hu4⟩
  · go_enter Try.func3, Try.ntmps3
    go_wp2_with fail
    refine (awake_any _).mono ?_
    rintro e w1 ⟨rfl, hu1⟩
    go_wp2_with fail
    refine (awake_any _).mono ?_
    rintro e w2 ⟨rfl, hu2⟩
    go_wp2
    go_ret
    exact ⟨rfl, hu1.trans hu2⟩
set_option maxRecDepth 100000 in
theorem lifted_wirePut (os : Os) (started : os.Started) (H : Type) (enc : TypeId × Value → H) :
    ReturnsInHanded {} Try.checked os 3 .any (Rows.wirePutSpec.pre6 enc Try.prog Try.f3 Rows.wirePutRow.domain false) (Rows.wirePutSpec.post enc Try.prog Try.f3 false true false false) := by
  refine returnsInHanded_of_change (C := Try.checked) ownK started (by kernel_rfl) Try.func3
    (ChangeSpec.witness6 (enc := enc) (C := Try.checked) false ⟨#[], #[.int .u64 0, .string ⟨#[]⟩], []⟩ 8 (by kernel_rfl) (by kernel_rfl) (by kernel_rfl) (by kernel_rfl)) ?_
  intro W base args ds gs before hval0 hW hcnd _
  have hval : ∀ (j : Nat) t v, Try.f3.params[j]? = some t → args[j]? = some v → Value.okWide Try.prog W .any base t v := hval0
  have hW' := hW
  obtain ⟨p, q, hA0, hV, rfl, hfz, hnd⟩ := hW
  have hA : DataW.TrodAll enc Try.prog W 0 (fun _ => true) true Try.f3.params.toList args.toList ds p := hA0
  rw [Try.params3] at hA hval
  obtain ⟨v0, vs0, d0, ds0, p0, q0, hargs, rfl, rfl, h0, r0⟩ := trodAll_cons hA
  obtain ⟨v1, vs1, d1, ds1, p1, q1, rfl, rfl, rfl, h1, r1⟩ := trodAll_cons r0
  obtain ⟨rfl, rfl, rfl⟩ := trodAll_nil r1
  obtain rfl : args = #[v0, v1] := by cases args; simp_all
  obtain ⟨rfl, rfl⟩ := trodVars_none hV
  obtain ⟨a0, rfl, rfl, rfl, w0⟩ := open_int Try.underlying22 (hval 0 22 v0 rfl rfl) h0
  obtain ⟨a1, rfl, rfl, rfl, w1⟩ := Go.ChangeMaps.open_string Try.underlying9 (hval 1 9 v1 rfl rfl) h1
  clear hA0 hval0
  refine (putW a0 a1 W w0 w1).mono fun e W' ⟨he, bel0⟩ => ?_
  have bel : Below W.heap.size W W' := bel0
  subst he
  exact ⟨_, rfl, _, _, _, [], _, [], hW', trodAll_mk1 (shut_bool Try.underlying4 _), (trodAll_cons_mk (shut_int Try.underlying22 w0) (trodAll_cons_mk (Go.ChangeMaps.shut_string Try.underlying9 w1) trodAll_mk0)), rfl, bel.frame _, fun h => by cases h⟩

theorem over_wirePut : Rows.wirePutRow.holds Try.pinned (OpenSpec.ofChange Rows.wirePutSpec) :=
  OpenClaim.holds_of_wide 3 Try.f3 rfl rfl rfl rfl rfl rfl rfl ⟨rfl, rfl, rfl, rfl, rfl⟩ rfl rfl rfl rfl rfl (by kernel_rfl) Try.func3 (by kernel_rfl)
    (of_decide_eq_true (by kernel_rfl)) (by unfold Func.isWrapper; first | (rw [if_pos (by decide +kernel)]; kernel_rfl) | (rw [if_neg (by decide +kernel)]; exact ⟨rfl, rfl⟩))
    (fun os started H enc _ => lifted_wirePut os started H enc)

theorem wirePut_holds : Rows.WirePutSaid := over_wirePut
end Go.Proofs.Ytcgoogdjgocjbaa
