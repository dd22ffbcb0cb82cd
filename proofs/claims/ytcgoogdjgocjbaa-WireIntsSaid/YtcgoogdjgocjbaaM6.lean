/- For every list of integers and every string behind it, PutInts returns the code of the reference and GetInts restores the list (asked up to 300 integers and 100 bytes behind them, as the law does). No condition. -/
import Derived.Test.YtcgoogdjgocjbaaL
import Derived.Test.YtcgoogdjgocjbaaK
import Derived.Test.YtcgoogdjgocjbaaH
import Derived.Test.YtcgoogdjgocjbaaN
import Derived.Test.YtcgoogdjgocjbaaP
namespace Go.Proofs.Ytcgoogdjgocjbaa
open Go.RowKit

open Go.ChangeShapes Go.WideShapes Go.ChangeAt
theorem ci_len {z : Int} (h : -9223372036854775808 ≤ z ∧ z ≤ 9223372036854775807) : (ci z).length ≤ 10 := vi_len10 (zz_lt h.1 h.2)
set_option maxRecDepth 1000000 in
set_option maxHeartbeats 4000000 in
theorem intsW (v : Value) (rest : ByteArray) (w : World) (hv : ∃ l, IntsIn w v l) (hs : rest.size ≤ maxLen) : Calls Try.prog 8 #[v, .string rest] w fun e w' => e = .returned (.bool true) ∧ Up w w' := by
  obtain ⟨l, A, n, c, rfl, hA, hI, hnl, hnc, hn63, hz⟩ := hv
  unfold maxLen at hs
  by_cases hlim : n ≤ 300 ∧ rest.size ≤ 100
  · obtain ⟨hl1, hl2⟩ := hlim
    have Hn := hide hnl
    have hbig : (cd ci l).length ≤ 3010 := by
      have h1 := vi_len10 (n := l.length) (by omega)
      have h2 := flat_len ci l 10 (fun z hz => ci_len (hI z hz))
      unfold cd
      rw [List.length_append]; omega
    have hlst := lst_ints l rest (by omega) hI
    have ht : (bs (cd ci l)).size ≤ 3010 := by rw [bs_size]; exact hbig
    have hc1 := fun A c w (hv : Vals w A (is l)) => pints_any A n c l w hv Hn (by omega) (by omega) hI
    have hc2 := fun A c w (hv : Vals w A (is l)) => rpints_any A n c l w hv Hn (by omega) (by omega) hI
    obtain ⟨t, htt⟩ : ∃ t, t = bs (cd ci l) := ⟨_, rfl⟩
    rw [← htt] at hlst ht hc1 hc2
    clear htt
    have hadd : ∀ w : World, (Op.stringOp .add t rest).run Try.prog w = .ok (.string (t ++ rest)) w := fun w => run_string_add_sum w _ _ (by omega)
    have hc3 := fun w => gints_any (t ++ rest) w (by rw [ByteArray.size_append]; omega)
    rw [hlst] at hc3
    dsimp only at hc3
    clear hlst hbig hnl hI
    go_enter Try.func8, Try.ntmps8
    go_wp2_with (first | (go_at_call 12; refine (awake_any _).mono ?_; rintro e w1 ⟨rfl, hu1⟩) | (go_at_call 29; refine (cloneI_any A n c l _ (hA.up hu1) Hn hz (by omega)).mono ?_; rintro e w2 ⟨A2, c2, rfl, hv2, hc2', hu2⟩) | (go_at_call 28; refine (hc1 A2 c2 _ hv2).mono ?_; rintro e w3 ⟨rfl, hu3⟩) | (go_at_call 30; refine (hc3 _).mono ?_; rintro e w4 ⟨A4, n4, c4, rfl, h41, h42, h43, h44, hu4⟩) | (go_at_call 31; refine (hc2 A c _ (((hA.up hu1).up hu2).up (hu3.trans hu4))).mono ?_; rintro e w5 ⟨rfl, hu5⟩) | (go_at_call 32; refine (eqints_any A4 A n4 n c4 c l l _ (h44.up hu5) ((((hA.up hu1).up hu2).up (hu3.trans hu4)).up hu5) (h41.symm.trans (is_len l)) Hn h43 (by omega)).mono ?_; rintro e w6 ⟨r, rfl, hr, hu6⟩; obtain rfl : r = true := hr.2 rfl))
    go_ret
    exact ⟨rfl, ((((hu1.trans hu2).trans (hu3.trans hu4))).trans hu5).trans hu6⟩
  · have hor : 300 < n ∨ (¬ 300 < n ∧ 100 < rest.size) := by omega
    clear hlim
    rcases hor with h1 | ⟨h1, h2⟩
    · go_enter Try.func8, Try.ntmps8
      go_wp2_with fail
      refine (awake_any _).mono ?_
      rintro e w1 ⟨rfl, hu1⟩
      go_wp2_with fail
      refine (awake_any _).mono ?_
      rintro e w2 ⟨rfl, hu2⟩
      go_wp2
      go_ret
      exact ⟨rfl, hu1.trans hu2⟩
    · go_enter Try.func8, Try.ntmps8
      go_wp2_with fail
      refine (awake_any _).mono ?_
      rintro e w1 ⟨rfl, hu1⟩
      go_wp2_with fail
      refine (awake_any _).mono ?_
      rintro e w2 ⟨rfl, hu2⟩
      go_wp2
      go_ret
      exact ⟨rfl, hu1.trans hu2⟩
set_option maxRecDepth 100000 in
theorem lifted_wireInts (os : Os) (started : os.Started) (H : Type) (enc : TypeId × Value → H) :
    ReturnsInHanded {} Try.checked os 8 .any (Rows.wireIntsSpec.pre6 enc Try.prog Try.f8 Rows.wireIntsRow.domain false) (Rows.wireIntsSpec.post enc Try.prog Try.f8 false true false false) := by
  refine returnsInHanded_of_change (C := Try.checked) ownK started (by kernel_rfl) Try.func8
    (ChangeSpec.witness6 (enc := enc) (C := Try.checked) false ⟨#[], #[.slice none 0 0, .string ⟨#[]⟩], []⟩ 8 (by kernel_rfl) (by kernel_rfl) (by kernel_rfl) (by kernel_rfl)) ?_
  intro W base args ds gs before hval0 hW hcnd _
  have hval : ∀ (j : Nat) t v, Try.f8.params[j]? = some t → args[j]? = some v → Value.okWide Try.prog W .any base t v := hval0
  have hW' := hW
  obtain ⟨p, q, hA0, hV, rfl, hfz, hnd⟩ := hW
  have hA : DataW.TrodAll enc Try.prog W 0 (fun _ => true) true Try.f8.params.toList args.toList ds p := hA0
  rw [Try.params8] at hA hval
  obtain ⟨v0, vs0, d0, ds0, p0, q0, hargs, rfl, rfl, h0, r0⟩ := trodAll_cons hA
  obtain ⟨v1, vs1, d1, ds1, p1, q1, rfl, rfl, rfl, h1, r1⟩ := trodAll_cons r0
  obtain ⟨rfl, rfl, rfl⟩ := trodAll_nil r1
  obtain rfl : args = #[v0, v1] := by cases args; simp_all
  obtain ⟨rfl, rfl⟩ := trodVars_none hV
  have k0 := h0
  have lt0 : ∀ x ∈ p0, x.block < W.heap.size := by obtain ⟨m, hm⟩ := k0; exact DataW.trod_lt m _ _ _ hm
  have w0 := open_intsW (hval 0 41 v0 rfl rfl) h0
  obtain ⟨a1, rfl, rfl, rfl, w1⟩ := Go.ChangeMaps.open_string Try.underlying9 (hval 1 9 v1 rfl rfl) h1
  clear hA0 hval0
  refine (intsW v0 a1 W w0 w1).mono fun e W' ⟨he, bel0⟩ => ?_
  have bel : Below W.heap.size W W' := bel0
  subst he
  exact ⟨_, rfl, _, _, _, [], _, [], hW', trodAll_mk1 (shut_bool Try.underlying4 _), (trodAll_cons_mk (Below.trod laidOut (by kernel_rfl) (of_decide_eq_true (by kernel_rfl)) k0 bel lt0) (trodAll_cons_mk (Go.ChangeMaps.shut_string Try.underlying9 w1) trodAll_mk0)), rfl, bel.frame _, fun h => by cases h⟩

theorem over_wireInts : Rows.wireIntsRow.holds Try.pinned (OpenSpec.ofChange Rows.wireIntsSpec) :=
  OpenClaim.holds_of_wide 8 Try.f8 rfl rfl rfl rfl rfl rfl rfl ⟨rfl, rfl, rfl, rfl, rfl⟩ rfl rfl rfl rfl rfl (by kernel_rfl) Try.func8 (by kernel_rfl)
    (of_decide_eq_true (by kernel_rfl)) (by unfold Func.isWrapper; first | (rw [if_pos (by decide +kernel)]; kernel_rfl) | (rw [if_neg (by decide +kernel)]; exact ⟨rfl, rfl⟩))
    (fun os started H enc _ => lifted_wireInts os started H enc)

theorem wireInts_holds : Rows.WireIntsSaid := over_wireInts
end Go.Proofs.Ytcgoogdjgocjbaa
