/- For every two lists of strings, together of bulk at most 1048576: the code of one begins with that of the other exactly if the lists are the same (asked of short lists, as the law does). The bound is the second form's. -/
import Derived.Test.YtcgoogdjgocjbaaQ
import Derived.Test.YtcgoogdjgocjbaaK
import Derived.Test.YtcgoogdjgocjbaaH
import Derived.Test.YtcgoogdjgocjbaaN
import Derived.Test.YtcgoogdjgocjbaaP
import Derived.JoinedCond
import Derived.Test.YtcgoogdjgocjbaaM7
import Derived.Deep.RegionHeld3
namespace Go.Proofs.Ytcgoogdjgocjbaa
open Go.RowKit

open Go.ChangeShapes Go.WideShapes Go.ChangeAt
theorem pre_iff (a b : List ByteArray) (ha : a.length + sz a ≤ 2000) (hb : b.length + sz b ≤ 2000) (hle : (bs (cd cs a)).size ≤ (bs (cd cs b)).size) : ((((bs (cd cs b)).extract 0 (bs (cd cs a)).size).toList == (bs (cd cs a)).toList) = true ↔ a = b) := by
  have hx := fun (l : List ByteArray) (hl : l.length + sz l ≤ 2000) (t : ByteArray) (r : List Nat) (ht : by_ t = cd cs l ++ r) => lst_back gs cs l t r (by omega) (fun s hs t r ht => gs_back s t r (by have := sz_mem hs; omega) ht) ht
  rw [beq_iff_eq, ByteArray.toList_eq, ByteArray.toList_eq]
  constructor
  · intro h
    have h1 : (bs (cd cs b)).extract 0 (bs (cd cs a)).size = bs (cd cs a) := bytes_inj h
    have h2 : by_ (bs (cd cs b)) = cd cs a ++ (cd cs b).drop (cd cs a).length := by
      have h3 := congrArg by_ h1
      rw [by_extract, by_bs _ (cd_lt cs cs_lt a), by_bs _ (cd_lt cs cs_lt b), List.drop_zero, Nat.sub_zero, bs_size] at h3
      rw [by_bs _ (cd_lt cs cs_lt b)]
      conv => lhs; rw [← List.take_append_drop (cd cs a).length (cd cs b), h3]
    have e1 := hx a ha _ _ h2
    have e2 := hx b hb _ [] (by rw [List.append_nil, by_bs _ (cd_lt cs cs_lt b)])
    rw [e1] at e2
    exact congrArg (fun p => p.2.1) e2
  · rintro rfl
    congr 2
    refine by_inj ?_
    rw [by_extract, ← by_len, List.drop_zero, Nat.sub_zero, List.take_length]
set_option maxRecDepth 1000000 in
set_option maxHeartbeats 8000000 in
theorem prefixW (v v' : Value) (w : World) (hv : ∃ l, StrsIn w v l ∧ l.length + sz l ≤ 1048576) (hv' : ∃ l, StrsIn w v' l ∧ l.length + sz l ≤ 1048576) : Calls Try.prog 11 #[v, v'] w fun e w' => e = .returned (.bool true) ∧ Up w w' := by
  obtain ⟨a, ⟨A, n, c, rfl, hA, _, hnl, hnc, hn63, hz⟩, hbulk⟩ := hv
  obtain ⟨b, ⟨B, m, d, rfl, hB, _, hml, hmc, hm63, hz'⟩, hbulk'⟩ := hv'
  obtain ⟨M, hM⟩ : ∃ M, M = n + sz a := ⟨_, rfl⟩
  obtain ⟨K, hK⟩ : ∃ M, M = m + sz b := ⟨_, rfl⟩
  have HMa := hide hM
  have HMb := hide hK
  have Hna := hide hnl
  have Hnb := hide hml
  have hMb : M ≤ 1048576 := by omega
  have hnM : n ≤ M := by omega
  have hKb : K ≤ 1048576 := by omega
  have hmK : m ≤ K := by omega
  by_cases hlim : M ≤ 2000 ∧ K ≤ 2000
  · obtain ⟨hl1, hl2⟩ := hlim
    have hbig := cs_sum a (by omega)
    have hbig' := cs_sum b (by omega)
    have hp1 := pre_iff a b (by omega) (by omega)
    have hp2 := pre_iff b a (by omega) (by omega)
    have ht : (bs (cd cs a)).size ≤ 30000 := by rw [bs_size]; exact hbig
    have ht' : (bs (cd cs b)).size ≤ 30000 := by rw [bs_size]; exact hbig'
    have hc1 := fun A c w (hv : Vals w A (ss a)) => plist_any A n c a w hv Hna (by omega) (by omega)
    have hc2 := fun A c w (hv : Vals w A (ss b)) => plist_any A m c b w hv Hnb (by omega) (by omega)
    obtain ⟨s, hs⟩ : ∃ t, t = bs (cd cs a) := ⟨_, rfl⟩
    obtain ⟨t, htt⟩ : ∃ t, t = bs (cd cs b) := ⟨_, rfl⟩
    rw [← hs, ← htt] at hp1 hp2
    rw [← hs] at ht hc1
    rw [← htt] at ht' hc2
    clear htt hs hbig hbig' hnl hml hM hK hbulk hbulk'
    by_cases hgt : t.size < s.size
    · have HP := hide (hp2 (by omega))
      clear hp1 hp2
      go_enter Try.func11, Try.ntmps11
      go_wp2_with fail
      refine (awake_any _).mono ?_
      rintro e w1 ⟨rfl, hu1⟩
      go_wp2_with fail
      refine (short_any M A n c a _ (hA.up hu1) Hna HMa (by omega)).mono ?_
      rintro e wx ⟨rfl, rfl⟩
      rw [show decide (((M : Nat) : Int) ≤ 2000) = true from decide_eq_true (by omega)]
      go_wp2_with fail
      refine (short_any K B m d b _ (hB.up hu1) Hnb HMb (by omega)).mono ?_
      rintro e wx ⟨rfl, rfl⟩
      rw [show decide (((K : Nat) : Int) ≤ 2000) = true from decide_eq_true (by omega)]
      go_wp2_with fail
      refine (cloneS_any A n c a _ (hA.up hu1) Hna hz (by omega)).mono ?_
      rintro e w2 ⟨A2, c2, rfl, hv2, hc2', hu2⟩
      go_wp2_with fail
      refine (hc1 A2 c2 _ hv2).mono ?_
      rintro e w3 ⟨rfl, hu3⟩
      have hu13 := (hu1.trans hu2).trans hu3
      go_wp2_with fail
      refine (cloneS_any B m d b _ (hB.up hu13) Hnb hz' (by omega)).mono ?_
      rintro e w4 ⟨A4, c4, rfl, hv4, hc4', hu4⟩
      go_wp2_with fail
      refine (hc2 A4 c4 _ hv4).mono ?_
      rintro e w5 ⟨rfl, hu5⟩
      have hu15 := (hu13.trans hu4).trans hu5
      clear hc1 hc2 hv2 hv4 hc2' hc4' hu2 hu3 hu4 hu5 hu13
      go_wp2_with fail
      have hsl : ∀ W : World, (Instr.slice 9 (.string s) none (some (.int .i64 ((t.size : Nat) : Int))) none).run Try.prog W = .ok (.string (s.extract 0 t.size)) W := fun W => by rw [run_slice_string_h W _ _ Try.underlying9 .i64 _ (by omega) (by omega)]; simp only [Int.toNat_natCast]
      have hupA : Up w5 w5.drew := (Up.refl w5).drew
      go_region_held3 (fun _ => True) (exact True.intro)
        (first | (go_at_call 22; refine (same_any A B n m c d a b _ (hA.up (hu15.trans hupA)) (hB.up (hu15.trans hupA)) Hna Hnb (by omega) (by omega)).mono ?_; rintro e wx ⟨r, rfl, hr, hupx⟩; replace hupA := hupA.trans hupx))
      go_wp2
      have hX : ((s.extract 0 t.size).toList == t.toList) = r := by rw [Bool.eq_iff_iff]; exact HP.out.trans (eq_comm.trans hr.symm)
      go_ret
      exact ⟨by rw [hX]; simp, hu15.trans hupA⟩
    · have HP := hide (hp1 (by omega))
      clear hp1 hp2
      go_enter Try.func11, Try.ntmps11
      go_wp2_with fail
      refine (awake_any _).mono ?_
      rintro e w1 ⟨rfl, hu1⟩
      go_wp2_with fail
      refine (short_any M A n c a _ (hA.up hu1) Hna HMa (by omega)).mono ?_
      rintro e wx ⟨rfl, rfl⟩
      rw [show decide (((M : Nat) : Int) ≤ 2000) = true from decide_eq_true (by omega)]
      go_wp2_with fail
      refine (short_any K B m d b _ (hB.up hu1) Hnb HMb (by omega)).mono ?_
      rintro e wx ⟨rfl, rfl⟩
      rw [show decide (((K : Nat) : Int) ≤ 2000) = true from decide_eq_true (by omega)]
      go_wp2_with fail
      refine (cloneS_any A n c a _ (hA.up hu1) Hna hz (by omega)).mono ?_
      rintro e w2 ⟨A2, c2, rfl, hv2, hc2', hu2⟩
      go_wp2_with fail
      refine (hc1 A2 c2 _ hv2).mono ?_
      rintro e w3 ⟨rfl, hu3⟩
      have hu13 := (hu1.trans hu2).trans hu3
      go_wp2_with fail
      refine (cloneS_any B m d b _ (hB.up hu13) Hnb hz' (by omega)).mono ?_
      rintro e w4 ⟨A4, c4, rfl, hv4, hc4', hu4⟩
      go_wp2_with fail
      refine (hc2 A4 c4 _ hv4).mono ?_
      rintro e w5 ⟨rfl, hu5⟩
      have hu15 := (hu13.trans hu4).trans hu5
      clear hc1 hc2 hv2 hv4 hc2' hc4' hu2 hu3 hu4 hu5 hu13
      go_wp2_with fail
      have hsl : ∀ W : World, (Instr.slice 9 (.string t) none (some (.int .i64 ((s.size : Nat) : Int))) none).run Try.prog W = .ok (.string (t.extract 0 s.size)) W := fun W => by rw [run_slice_string_h W _ _ Try.underlying9 .i64 _ (by omega) (by omega)]; simp only [Int.toNat_natCast]
      have hupA : Up w5 w5.drew := (Up.refl w5).drew
      go_region_held3 (fun _ => True) (exact True.intro)
        (first | (go_at_call 22; refine (same_any A B n m c d a b _ (hA.up (hu15.trans hupA)) (hB.up (hu15.trans hupA)) Hna Hnb (by omega) (by omega)).mono ?_; rintro e wx ⟨r, rfl, hr, hupx⟩; replace hupA := hupA.trans hupx))
      go_wp2
      have hX : ((t.extract 0 s.size).toList == s.toList) = r := by rw [Bool.eq_iff_iff]; exact HP.out.trans (hr.symm)
      go_ret
      exact ⟨by rw [hX]; simp, hu15.trans hupA⟩
  · have hor : 2000 < M ∨ (M ≤ 2000 ∧ 2000 < K) := by omega
    clear hlim hM hnl hK hml
    rcases hor with h1 | ⟨h1, h2⟩
    · go_enter Try.func11, Try.ntmps11
      go_wp2_with fail
      refine (awake_any _).mono ?_
      rintro e w1 ⟨rfl, hu1⟩
      go_wp2_with fail
      refine (short_any M A n c a _ (hA.up hu1) Hna HMa (by omega)).mono ?_
      rintro e wx ⟨rfl, rfl⟩
      rw [show decide (((M : Nat) : Int) ≤ 2000) = false from decide_eq_false (by omega)]
      go_wp2_with fail
      refine (awake_any _).mono ?_
      rintro e w2 ⟨rfl, hu2⟩
      go_wp2
      go_ret
      exact ⟨rfl, hu1.trans hu2⟩
    · go_enter Try.func11, Try.ntmps11
      go_wp2_with fail
      refine (awake_any _).mono ?_
      rintro e w1 ⟨rfl, hu1⟩
      go_wp2_with fail
      refine (short_any M A n c a _ (hA.up hu1) Hna HMa (by omega)).mono ?_
      rintro e wx ⟨rfl, rfl⟩
      rw [show decide (((M : Nat) : Int) ≤ 2000) = true from decide_eq_true (by omega)]
      go_wp2_with fail
      refine (short_any K B m d b _ (hB.up hu1) Hnb HMb (by omega)).mono ?_
      rintro e wx ⟨rfl, rfl⟩
      rw [show decide (((K : Nat) : Int) ≤ 2000) = false from decide_eq_false (by omega)]
      go_wp2_with fail
      refine (awake_any _).mono ?_
      rintro e w2 ⟨rfl, hu2⟩
      go_wp2
      go_ret
      exact ⟨rfl, hu1.trans hu2⟩
set_option maxRecDepth 100000 in
theorem contract_wirePrefix (H : Type) (enc : TypeId × Value → H) (W : World) (base : Nat) (args : Array Value) (ds gs : List (DataW H)) (before : List MemPlace)
    (hval0 : ∀ (j : Nat) t v, Try.f11.params[j]? = some t → args[j]? = some v → Value.okWide Try.prog W .any base t v)
    (hW : DataW.Whole enc Try.prog Try.f11.params.toList Rows.wirePrefixSpec.vars false W args.toList ds gs before) (hk : Rows.uptoSmall H (ds ++ gs) = true) :
    Calls Try.prog 11 args W fun e W' => ∃ v, e = .returned v ∧ Rows.wirePrefixSpec.post enc Try.prog Try.f11 false true false false W args v W' := by
  have hval := hval0
  have hW' := hW
  obtain ⟨p, q, hA0, hV, rfl, hfz, hnd⟩ := hW
  have hA : DataW.TrodAll enc Try.prog W 0 (fun _ => true) true Try.f11.params.toList args.toList ds p := hA0
  rw [Try.params11] at hA hval
  obtain ⟨v0, vs0, d0, ds0, p0, q0, hargs, rfl, rfl, h0, r0⟩ := trodAll_cons hA
  obtain ⟨v1, vs1, d1, ds1, p1, q1, rfl, rfl, rfl, h1, r1⟩ := trodAll_cons r0
  obtain ⟨rfl, rfl, rfl⟩ := trodAll_nil r1
  obtain rfl : args = #[v0, v1] := by cases args; simp_all
  obtain ⟨rfl, rfl⟩ := trodVars_none hV
  have hbk := bound hk
  simp only [List.append_nil, Rows.uptoBulkAll] at hbk
  have k0 := h0
  have lt0 : ∀ x ∈ p0, x.block < W.heap.size := by obtain ⟨m, hm⟩ := k0; exact DataW.trod_lt m _ _ _ hm
  have w0 := bulk_list (hval 0 30 v0 rfl rfl) h0 (by omega)
  have k1 := h1
  have lt1 : ∀ x ∈ p1, x.block < W.heap.size := by obtain ⟨m, hm⟩ := k1; exact DataW.trod_lt m _ _ _ hm
  have w1 := bulk_list (hval 1 30 v1 rfl rfl) h1 (by omega)
  clear hA0 hval0
  refine (prefixW v0 v1 W w0 w1).mono fun e W' ⟨he, bel0⟩ => ?_
  have bel : Below W.heap.size W W' := bel0
  subst he
  exact ⟨_, rfl, _, _, _, [], _, [], hW', trodAll_mk1 (shut_bool Try.underlying4 _), (trodAll_cons_mk (Below.trod laidOut (by kernel_rfl) (of_decide_eq_true (by kernel_rfl)) k0 bel lt0) (trodAll_cons_mk (Below.trod laidOut (by kernel_rfl) (of_decide_eq_true (by kernel_rfl)) k1 bel lt1) trodAll_mk0)), rfl, bel.frame _, fun h => by cases h⟩

set_option maxRecDepth 100000 in
theorem lifted_wirePrefix (os : Os) (started : os.Started) (H : Type) (enc : TypeId × Value → H) (F : Stop.Interp) :
    ReturnsInHanded {} Try.checked os 11 .any ((Rows.OpenSpec.upto Rows.wirePrefixSpec).pre6 enc Try.prog Try.f11 Rows.wirePrefixUptoRow.domain false) (((Rows.OpenSpec.upto Rows.wirePrefixSpec).at F).post enc Try.prog Try.f11 false true false false) := by
  refine returnsInHanded_of_cond (C := Try.checked) (s := Rows.OpenSpec.upto Rows.wirePrefixSpec) (k := Rows.uptoSmall) rfl ownK started (by kernel_rfl) Try.func11
    (OpenSpec.witness (enc := enc) (C := Try.checked) (s := Rows.OpenSpec.upto Rows.wirePrefixSpec) (k := Rows.uptoSmall) rfl false ⟨#[], #[.slice none 0 0, .slice none 0 0], []⟩ 8 (by kernel_rfl) (by kernel_rfl) (by kernel_rfl)
      (x := ([.nil, .nil], [], [])) (by kernel_rfl) rfl (by kernel_rfl)) ?_
  intro W base args ds gs before hval hW _ hk _
  exact contract_wirePrefix H enc W base args ds gs before hval hW hk

theorem over_wirePrefix : Rows.wirePrefixUptoRow.holds Try.pinned (Rows.OpenSpec.upto Rows.wirePrefixSpec) :=
  OpenClaim.holds_of_cond 11 Try.f11 rfl rfl rfl rfl rfl rfl rfl ⟨rfl, rfl, rfl, rfl, rfl⟩ rfl rfl rfl rfl rfl (by kernel_rfl) Try.func11 (by kernel_rfl)
    (of_decide_eq_true (by kernel_rfl)) (by unfold Func.isWrapper; first | (rw [if_pos (by decide +kernel)]; kernel_rfl) | (rw [if_neg (by decide +kernel)]; exact ⟨rfl, rfl⟩))
    (fun os started H enc _ F => lifted_wirePrefix os started H enc F)

theorem wirePrefixUpto_holds : Rows.WirePrefixUptoSaid := over_wirePrefix
end Go.Proofs.Ytcgoogdjgocjbaa
