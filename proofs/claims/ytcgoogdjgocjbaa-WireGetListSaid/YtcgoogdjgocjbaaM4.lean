/- For every string, GetList returns what the reference returns: strings, length and error (asked up to 1000 bytes, as the law does). No condition. -/
import Derived.Test.YtcgoogdjgocjbaaL
import Derived.Test.YtcgoogdjgocjbaaK
import Derived.Test.YtcgoogdjgocjbaaH
import Derived.Test.YtcgoogdjgocjbaaN
namespace Go.Proofs.Ytcgoogdjgocjbaa
open Go.RowKit

open Go.ChangeShapes Go.WideShapes Go.ChangeAt
set_option maxRecDepth 1000000 in
set_option maxHeartbeats 4000000 in
theorem getListW (s : ByteArray) (w : World) (hs : s.size ≤ maxLen) : Calls Try.prog 7 #[.string s] w fun e w' => e = .returned (.bool true) ∧ Up w w' := by
  unfold maxLen at hs
  by_cases hlim : s.size ≤ 1000
  · have hc1 := fun w => glist_any s w (by omega)
    have hc2 := fun w => rglist_any s w (by omega)
    obtain ⟨l, hl⟩ : ∃ l, l = (lst gs s).2.1 := ⟨_, rfl⟩
    obtain ⟨y, hy⟩ : ∃ y, y = (lst gs s).2.2 := ⟨_, rfl⟩
    obtain ⟨z, hz⟩ : ∃ z, z = (lst gs s).1 := ⟨_, rfl⟩
    rw [← hl, ← hy, ← hz] at hc1 hc2
    clear hl hy hz
    go_enter Try.func7, Try.ntmps7
    go_wp2_with (first | (go_at_call 12; refine (awake_any _).mono ?_; rintro e w1 ⟨rfl, hu1⟩) | (go_at_call 20; refine (hc1 _).mono ?_; rintro e w2 ⟨A2, n2, c2, rfl, h21, h22, h23, h24, hu2⟩) | (go_at_call 27; refine (hc2 _).mono ?_; rintro e w3 ⟨A3, n3, c3, rfl, h31, h32, h33, h34, hu3⟩) | (go_at_call 22; refine (same_any A2 A3 n2 n3 c2 c3 l l _ (h24.up hu3) h34 (h21.symm.trans (ss_len l)) (h31.symm.trans (ss_len l)) h23 h33).mono ?_; rintro e w4 ⟨r, rfl, hr, hu4⟩; obtain rfl : r = true := hr.2 rfl))
    go_ret
    exact ⟨rfl, ((hu1.trans hu2).trans hu3).trans hu4⟩
  · go_enter Try.func7, Try.ntmps7
    go_wp2_with fail
    refine (awake_any _).mono ?_
    rintro e w1 ⟨rfl, hu1⟩
    go_wp2_with fail
    refine (awake_any _).mono ?_
    rintro e w2 ⟨rfl, hu2⟩
    go_wp2
    go_ret
    exact ⟨rfl, hu1.trans hu2⟩
set_option maxRecDepth 100000 in
theorem lifted_wireGetList (os : Os) (started : os.Started) (H : Type) (enc : TypeId × Value → H) :
    ReturnsInHanded {} Try.checked os 7 .any (Rows.wireGetListSpec.pre6 enc Try.prog Try.f7 Rows.wireGetListRow.domain false) (Rows.wireGetListSpec.post enc Try.prog Try.f7 false true false false) := by
  refine returnsInHanded_of_change (C := Try.checked) ownK started (by kernel_rfl) Try.func7
    (ChangeSpec.witness6 (enc := enc) (C := Try.checked) false ⟨#[], #[.string ⟨#[]⟩], []⟩ 8 (by kernel_rfl) (by kernel_rfl) (by kernel_rfl) (by kernel_rfl)) ?_
  intro W base args ds gs before hval0 hW hcnd _
  have hval : ∀ (j : Nat) t v, Try.f7.params[j]? = some t → args[j]? = some v → Value.okWide Try.prog W .any base t v := hval0
  have hW' := hW
  obtain ⟨p, q, hA0, hV, rfl, hfz, hnd⟩ := hW
  have hA : DataW.TrodAll enc Try.prog W 0 (fun _ => true) true Try.f7.params.toList args.toList ds p := hA0
  rw [Try.params7] at hA hval
  obtain ⟨v0, vs0, d0, ds0, p0, q0, hargs, rfl, rfl, h0, r0⟩ := trodAll_cons hA
  obtain ⟨rfl, rfl, rfl⟩ := trodAll_nil r0
  obtain rfl : args = #[v0] := by cases args; simp_all
  obtain ⟨rfl, rfl⟩ := trodVars_none hV
  obtain ⟨a0, rfl, rfl, rfl, w0⟩ := Go.ChangeMaps.open_string Try.underlying9 (hval 0 9 v0 rfl rfl) h0
  clear hA0 hval0
  refine (getListW a0 W w0).mono fun e W' ⟨he, bel0⟩ => ?_
  have bel : Below W.heap.size W W' := bel0
  subst he
  exact ⟨_, rfl, _, _, _, [], _, [], hW', trodAll_mk1 (shut_bool Try.underlying4 _), (trodAll_cons_mk (Go.ChangeMaps.shut_string Try.underlying9 w0) trodAll_mk0), rfl, bel.frame _, fun h => by cases h⟩

theorem over_wireGetList : Rows.wireGetListRow.holds Try.pinned (OpenSpec.ofChange Rows.wireGetListSpec) :=
  OpenClaim.holds_of_wide 7 Try.f7 rfl rfl rfl rfl rfl rfl rfl ⟨rfl, rfl, rfl, rfl, rfl⟩ rfl rfl rfl rfl rfl (by kernel_rfl) Try.func7 (by kernel_rfl)
    (of_decide_eq_true (by kernel_rfl)) (by unfold Func.isWrapper; first | (rw [if_pos (by decide +kernel)]; kernel_rfl) | (rw [if_neg (by decide +kernel)]; exact ⟨rfl, rfl⟩))
    (fun os started H enc _ => lifted_wireGetList os started H enc)

theorem wireGetList_holds : Rows.WireGetListSaid := over_wireGetList
end Go.Proofs.Ytcgoogdjgocjbaa
