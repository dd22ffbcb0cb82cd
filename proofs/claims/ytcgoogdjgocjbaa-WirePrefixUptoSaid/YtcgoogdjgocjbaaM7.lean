/- For every list of strings and every string behind it, together of bulk at most 1048576, PutList and PutString return the codes of the reference, and GetList and GetString restore what was written (asked of short lists and up to 100 bytes behind them, as the law does). The bound is the second form's. -/
import Derived.Test.YtcgoogdjgocjbaaQ
import Derived.Test.YtcgoogdjgocjbaaK
import Derived.Test.YtcgoogdjgocjbaaH
import Derived.Test.YtcgoogdjgocjbaaN
import Derived.Test.YtcgoogdjgocjbaaP
import Derived.JoinedCond
namespace Go.Proofs.Ytcgoogdjgocjbaa
open Go.RowKit

open Go.ChangeShapes Go.WideShapes Go.ChangeAt
theorem cs_sum (l : List ByteArray) (h : l.length + sz l ≤ 2000) : (cd cs l).length ≤ 30000 := by
  have h1 := vi_len10 (n := l.length) (by omega)
  have h2 : ((l.map cs).flatten).length ≤ 10 * l.length + sz l := by
    clear h1
    induction l with
    | nil => simp
    | cons s l ih =>
      have h3 := cs_len s (by simp only [sz] at h; omega)
      have h4 := ih (by simp only [sz, List.length_cons] at h; omega)
      simp only [List.map_cons, List.flatten_cons, List.length_append, List.length_cons, sz]
      omega
  unfold cd
  rw [List.length_append]; omega
set_option maxRecDepth 1000000 in
set_option maxHeartbeats 8000000 in
theorem strsW (v : Value) (rest : ByteArray) (w : World) (hv : ∃ l, StrsIn w v l ∧ l.length + sz l ≤ 1048576) (hs : rest.size ≤ maxLen) : Calls Try.prog 5 #[v, .string rest] w fun e w' => e = .returned (.bool true) ∧ Up w w' := by
  obtain ⟨l, ⟨A, n, c, rfl, hA, _, hnl, hnc, hn63, hz⟩, hbulk⟩ := hv
  unfold maxLen at hs
  obtain ⟨M, hM⟩ : ∃ M, M = n + sz l := ⟨_, rfl⟩
  have HM := hide hM
  have Hn := hide hnl
  have hMb : M ≤ 1048576 := by omega
  have hnM : n ≤ M := by omega
  by_cases hlim : M ≤ 2000 ∧ rest.size ≤ 100
  · obtain ⟨hl1, hl2⟩ := hlim
    have hbig := cs_sum l (by omega)
    have hlst := lst_strs l rest (by omega) (fun s hs => by have := sz_mem hs; omega)
    have ht : (bs (cd cs l)).size ≤ 30000 := by rw [bs_size]; exact hbig
    have hc1 := fun A c w (hv : Vals w A (ss l)) => plist_any A n c l w hv Hn (by omega) (by omega)
    have hc2 := fun A c w (hv : Vals w A (ss l)) => rplist_any A n c l w hv Hn (by omega) (by omega)
    have hel : ∀ k, (l.getD k ⟨#[]⟩).size ≤ 2000 := fun k => by
      by_cases hk : k < l.length
      · have := sz_mem (l := l) (s := l.getD k ⟨#[]⟩) (by rw [List.getD, List.getElem?_eq_getElem hk]; exact List.getElem_mem hk)
        omega
      · rw [List.getD, List.getElem?_eq_none (by omega)]; exact Nat.zero_le _
    have HEL := hide hel
    obtain ⟨t, htt⟩ : ∃ t, t = bs (cd cs l) := ⟨_, rfl⟩
    rw [← htt] at hlst ht hc1 hc2
    clear htt hel
    have hadd : ∀ w : World, (Op.stringOp .add t rest).run Try.prog w = .ok (.string (t ++ rest)) w := fun w => run_string_add_sum w _ _ (by omega)
    have hc3 := fun w => glist_any (t ++ rest) w (by rw [ByteArray.size_append]; omega)
    rw [hlst] at hc3
    dsimp only at hc3
    clear hlst hbig hnl hM hbulk
    go_enter Try.func5, Try.ntmps5
    go_wp2_with (first | (go_at_call 12; refine (awake_any _).mono ?_; rintro e w1 ⟨rfl, hu1⟩) | (go_at_call 17; refine (short_any M A n c l _ (hA.up hu1) Hn HM (by omega)).mono ?_; rintro e wx ⟨rfl, rfl⟩) | (go_at_call 19; refine (cloneS_any A n c l _ (hA.up hu1) Hn hz (by omega)).mono ?_; rintro e w2 ⟨A2, c2, rfl, hv2, hc2', hu2⟩) | (go_at_call 18; refine (hc1 A2 c2 _ hv2).mono ?_; rintro e w3 ⟨rfl, hu3⟩) | (go_at_call 20; refine (hc3 _).mono ?_; rintro e w4 ⟨A4, n4, c4, rfl, h41, h42, h43, h44, hu4⟩) | (go_at_call 21; refine (hc2 A c _ (((hA.up hu1).up hu2).up (hu3.trans hu4))).mono ?_; rintro e w5 ⟨rfl, hu5⟩) | (go_at_call 22; refine (same_any A4 A n4 n c4 c l l _ (h44.up hu5) ((((hA.up hu1).up hu2).up (hu3.trans hu4)).up hu5) (h41.symm.trans (ss_len l)) Hn h43 (by omega)).mono ?_; rintro e w6 ⟨r, rfl, hr, hu6⟩; obtain rfl : r = true := hr.2 rfl))
    have hup6 := ((((hu1.trans hu2).trans (hu3.trans hu4))).trans hu5).trans hu6
    clear hc1 hc2 hc3 hu1 hu2 hu3 hu4 hu5 hu6 h41 h42 h43 h44 hv2 hc2' hadd ht hr
    go_loopw [61] (fun i wr => ∃ k : Nat, k ≤ n ∧ i = .int .i64 k ∧ Up w wr) (fun i _ => (n - (intOf i).toNat))
    case atStart => exact ⟨0, by omega, rfl, hup6⟩
    case round =>
      clear hup6
      obtain ⟨k, hk, rfl, hup⟩ := hrel
      by_cases hlt : k < n
      · obtain ⟨x, hx⟩ : ∃ x, x = l.getD k ⟨#[]⟩ := ⟨_, rfl⟩
        have hv1 := ss_get (l := l) (k := k) (by have := Hn.out; omega)
        have hxs : x.size ≤ 2000 := by rw [hx]; exact HEL.out k
        rw [← hx] at hv1
        obtain ⟨ad, hAd, hbk, hcell⟩ := (hA.up hup).at_ hv1
        subst hAd
        clear hx hv1
        have hback := gs_back x (bs (cs x) ++ rest) (by_ rest) (by omega) (by rw [by_append, by_bs _ (cs_lt x)])
        have hq1 := fun w => ps_any x w (by omega)
        have hq2 := fun w => rps_any x w (by omega)
        have htl := cs_len x (by omega)
        rw [← bs_size] at hback htl
        obtain ⟨t2, ht2⟩ : ∃ t, t = bs (cs x) := ⟨_, rfl⟩
        rw [← ht2] at hback hq1 hq2 htl
        clear ht2
        have hadd : ∀ w : World, (Op.stringOp .add t2 rest).run Try.prog w = .ok (.string (t2 ++ rest)) w := fun w => run_string_add_sum w _ _ (by omega)
        have hq3 := fun w => gstr_any (t2 ++ rest) w (by rw [ByteArray.size_append]; omega)
        unfold RetGs at hq3
        rw [hback] at hq3
        dsimp only at hq3
        clear hback
        go_wp2_with (first | (go_at_call 23; refine (hq1 _).mono ?_; rintro e w7 ⟨rfl, hu7⟩) | (go_at_call 24; refine (hq3 _).mono ?_; rintro e w8 ⟨rfl, rfl⟩) | (go_at_call 25; refine (hq2 _).mono ?_; rintro e w9 ⟨rfl, hu9⟩))
        go_roundw
        case rel => exact ⟨k + 1, by omega, by go_num, (hup.trans hu7).trans hu9⟩
        case measure => simp [intOf] <;> omega
      · obtain rfl : k = n := by omega
        go_wp2
        go_ret
        exact ⟨rfl, hup⟩
  · have hor : 2000 < M ∨ (M ≤ 2000 ∧ 100 < rest.size) := by omega
    clear hlim hM hnl
    rcases hor with h1 | ⟨h1, h2⟩
    · go_enter Try.func5, Try.ntmps5
      go_wp2_with fail
      refine (awake_any _).mono ?_
      rintro e w1 ⟨rfl, hu1⟩
      go_wp2_with fail
      refine (short_any M A n c l _ (hA.up hu1) Hn HM (by omega)).mono ?_
      rintro e wx ⟨rfl, rfl⟩
      go_wp2_with fail
      refine (awake_any _).mono ?_
      rintro e w2 ⟨rfl, hu2⟩
      go_wp2
      go_ret
      exact ⟨rfl, hu1.trans hu2⟩
    · go_enter Try.func5, Try.ntmps5
      go_wp2_with fail
      refine (awake_any _).mono ?_
      rintro e w1 ⟨rfl, hu1⟩
      go_wp2_with fail
      refine (short_any M A n c l _ (hA.up hu1) Hn HM (by omega)).mono ?_
      rintro e wx ⟨rfl, rfl⟩
      go_wp2_with fail
      refine (awake_any _).mono ?_
      rintro e w2 ⟨rfl, hu2⟩
      go_wp2
      go_ret
      exact ⟨rfl, hu1.trans hu2⟩
set_option maxRecDepth 100000 in
theorem contract_wireStrings (H : Type) (enc : TypeId × Value → H) (W : World) (base : Nat) (args : Array Value) (ds gs : List (DataW H)) (before : List MemPlace)
    (hval0 : ∀ (j : Nat) t v, Try.f5.params[j]? = some t → args[j]? = some v → Value.okWide Try.prog W .any base t v)
    (hW : DataW.Whole enc Try.prog Try.f5.params.toList Rows.wireStringsSpec.vars false W args.toList ds gs before) (hk : Rows.uptoSmall H (ds ++ gs) = true) :
    Calls Try.prog 5 args W fun e W' => ∃ v, e = .returned v ∧ Rows.wireStringsSpec.post enc Try.prog Try.f5 false true false false W args v W' := by
  have hval := hval0
  have hW' := hW
  obtain ⟨p, q, hA0, hV, rfl, hfz, hnd⟩ := hW
  have hA : DataW.TrodAll enc Try.prog W 0 (fun _ => true) true Try.f5.params.toList args.toList ds p := hA0
  rw [Try.params5] at hA hval
  obtain ⟨v0, vs0, d0, ds0, p0, q0, hargs, rfl, rfl, h0, r0⟩ := trodAll_cons hA
  obtain ⟨v1, vs1, d1, ds1, p1, q1, rfl, rfl, rfl, h1, r1⟩ := trodAll_cons r0
  obtain ⟨rfl, rfl, rfl⟩ := trodAll_nil r1
  obtain rfl : args = #[v0, v1] := by cases args; simp_all
  obtain ⟨rfl, rfl⟩ := trodVars_none hV
  have hbk := bound hk
  simp only [List.append_nil, Rows.uptoBulkAll] at hbk
  have k0 := h0
  have lt0 : ∀ x ∈ p0, x.block < W.heap.size := by obtain ⟨m, hm⟩ := k0; exact DataW.trod_lt m _ _ _ hm
  have w0 := bulk_list (hval 0 30 v0 rfl rfl) h0 (by omega)
  obtain ⟨a1, rfl, rfl, rfl, w1⟩ := Go.ChangeMaps.open_string Try.underlying9 (hval 1 9 v1 rfl rfl) h1
  clear hA0 hval0
  refine (strsW v0 a1 W w0 w1).mono fun e W' ⟨he, bel0⟩ => ?_
  have bel : Below W.heap.size W W' := bel0
  subst he
  exact ⟨_, rfl, _, _, _, [], _, [], hW', trodAll_mk1 (shut_bool Try.underlying4 _), (trodAll_cons_mk (Below.trod laidOut (by kernel_rfl) (of_decide_eq_true (by kernel_rfl)) k0 bel lt0) (trodAll_cons_mk (Go.ChangeMaps.shut_string Try.underlying9 w1) trodAll_mk0)), rfl, bel.frame _, fun h => by cases h⟩

set_option maxRecDepth 100000 in
theorem lifted_wireStrings (os : Os) (started : os.Started) (H : Type) (enc : TypeId × Value → H) (F : Stop.Interp) :
    ReturnsInHanded {} Try.checked os 5 .any ((Rows.OpenSpec.upto Rows.wireStringsSpec).pre6 enc Try.prog Try.f5 Rows.wireStringsUptoRow.domain false) (((Rows.OpenSpec.upto Rows.wireStringsSpec).at F).post enc Try.prog Try.f5 false true false false) := by
  refine returnsInHanded_of_cond (C := Try.checked) (s := Rows.OpenSpec.upto Rows.wireStringsSpec) (k := Rows.uptoSmall) rfl ownK started (by kernel_rfl) Try.func5
    (OpenSpec.witness (enc := enc) (C := Try.checked) (s := Rows.OpenSpec.upto Rows.wireStringsSpec) (k := Rows.uptoSmall) rfl false ⟨#[], #[.slice none 0 0, .string ⟨#[]⟩], []⟩ 8 (by kernel_rfl) (by kernel_rfl) (by kernel_rfl)
      (x := ([.nil, .lit (.string [])], [], [])) (by kernel_rfl) rfl (by kernel_rfl)) ?_
  intro W base args ds gs before hval hW _ hk _
  exact contract_wireStrings H enc W base args ds gs before hval hW hk

theorem over_wireStrings : Rows.wireStringsUptoRow.holds Try.pinned (Rows.OpenSpec.upto Rows.wireStringsSpec) :=
  OpenClaim.holds_of_cond 5 Try.f5 rfl rfl rfl rfl rfl rfl rfl ⟨rfl, rfl, rfl, rfl, rfl⟩ rfl rfl rfl rfl rfl (by kernel_rfl) Try.func5 (by kernel_rfl)
    (of_decide_eq_true (by kernel_rfl)) (by unfold Func.isWrapper; first | (rw [if_pos (by decide +kernel)]; kernel_rfl) | (rw [if_neg (by decide +kernel)]; exact ⟨rfl, rfl⟩))
    (fun os started H enc _ F => lifted_wireStrings os started H enc F)

theorem wireStringsUpto_holds : Rows.WireStringsUptoSaid := over_wireStrings
end Go.Proofs.Ytcgoogdjgocjbaa
