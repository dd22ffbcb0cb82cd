/- Walks: the reference's order of sets; the error of a family, by both. -/
import Derived.Test.YtfdlmgjjpcdkpaaDoorSf
namespace Go.Proofs.YtfdlmgjjpcdkpaaDoor
open Go.RowKit

theorem shr_one {s k : Nat} (hs : s < 65536) : bits .and .u16 ((s : Int) / (2 : Int) ^ k) 1 = (((if s.testBit k then 1 else 0) : Nat) : Int) := by
  have e : (s : Int) / (2 : Int) ^ k = ((s / 2 ^ k : Nat) : Int) := by rw [Int.natCast_ediv, Int.natCast_pow]; rfl
  have hlt : s / 2 ^ k < 65536 := Nat.lt_of_le_of_lt (Nat.div_le_self _ _) hs
  have := and16 (b := 1) hlt
  rw [show ((1 : Nat) : Int) = 1 from rfl] at this
  rw [e, this, Nat.and_one_is_mod, Nat.testBit_eq_decide_div_mod_eq]
  by_cases h : s / 2 ^ k % 2 = 1
  · simp [h]
  · simp [h]
    omega
set_option maxRecDepth 100000 in
set_option maxHeartbeats 2000000 in
theorem rsize_any (s : Nat) (w : World) (hs : s < 65536) : Calls Tryd.prog 59 #[.int .u16 (s : Int)] w fun e w' => e = .returned (.int .i64 (cnt s : Int)) ∧ w' = w := by
  obtain ⟨S, HSS⟩ : ∃ S, Hid (S = cnt s) := ⟨_, rfl⟩
  rw [← HSS.out]
  go_enter Tryd.func59, Tryd.ntmps59
  go_wp2
  go_loop [3, 4] (fun v3 v4 => ∃ k a : Nat, v4 = .int .i64 (k : Int) ∧ k ≤ 16 ∧ v3 = .int .i64 (a : Int) ∧ a ≤ k ∧ Hid (a = (mem k s).length)) (fun _ v4 => 16 - (intOf v4).toNat)
  case atStart => exact ⟨0, 0, rfl, by omega, rfl, by omega, rfl⟩
  case round =>
    obtain ⟨k, a, rfl, hk, rfl, ha, HX⟩ := hrel
    by_cases hlt : k < 16
    · have hq := shr_one (k := k) hs
      obtain ⟨x, hx⟩ : ∃ x : Nat, (if s.testBit k then 1 else 0) = x := ⟨_, rfl⟩
      have hx1 : x ≤ 1 := by rw [← hx]; split <;> omega
      have HX2 : Hid (a + x = (mem (k + 1) s).length) := by
        show _ = _
        rw [mem_succ, List.length_append, ← HX.out, ← hx]
        split <;> rfl
      rw [hx] at hq
      clear hx HX
      go_wp2
      go_round
      case rel => exact ⟨k + 1, a + x, by go_num, by omega, by go_num, by omega, HX2.out⟩
      case measure => simp [intOf]; omega
    · obtain rfl : k = 16 := by omega
      have HY : Hid (S = a) := by show S = a; rw [HX.out, HSS.out]; rfl
      go_wp2
      go_ret
      exact ⟨by rw [HY.out]; rfl, rfl⟩
set_option maxRecDepth 100000 in
set_option maxHeartbeats 2000000 in
theorem rbef_any (a b : Nat) (w : World) (ha : a < 65536) (hb : b < 65536) : Calls Tryd.prog 41 #[.int .u16 (a : Int), .int .u16 (b : Int)] w fun e w' => e = .returned (.bool (bef a b)) ∧ w' = w := by
  have ca := fun w => rsize_any a w ha
  have cb := fun w => rsize_any b w hb
  have hiff := bef_iff a b
  obtain ⟨n, hn⟩ : ∃ n, cnt a = n := ⟨_, rfl⟩
  obtain ⟨m, hm⟩ : ∃ m, cnt b = m := ⟨_, rfl⟩
  rw [hn] at ca hiff
  rw [hm] at cb hiff
  by_cases h : n = m
  · have d : ((n : Int) != (m : Int)) = false := by rw [bne_eq_false_iff_eq]; omega
    have HB : Hid (bef a b = decide (a < b)) := by
      show _ = _
      rw [Bool.eq_iff_iff, hiff, decide_eq_true_eq]
      omega
    obtain ⟨q, hq⟩ : ∃ q, decide ((a : Int) < (b : Int)) = q := ⟨_, rfl⟩
    have HQ : Hid (bef a b = q) := by
      show _ = _
      rw [HB.out, ← hq]
      by_cases h2 : a < b
      · rw [decide_eq_true h2, decide_eq_true (by omega)]
      · rw [decide_eq_false h2, decide_eq_false (by omega)]
    rw [HQ.out]
    clear h hn hm hiff HB
    go_enter Tryd.func41, Tryd.ntmps41
    go_wp2_with fail
    refine (ca w).mono ?_
    rintro e1 w1 ⟨rfl, rfl⟩
    go_wp2_with fail
    refine (cb w1).mono ?_
    rintro e2 w2 ⟨rfl, rfl⟩
    clear ca cb
    cases q with
    | true =>
      have d3 : a < b := by simpa using hq
      go_wp2
      go_ret
      exact ⟨rfl, rfl⟩
    | false =>
      have d3 : ¬ a < b := by simpa using hq
      go_wp2
      go_ret
      exact ⟨rfl, rfl⟩
  · have d : ((n : Int) != (m : Int)) = true := by rw [bne_iff_ne]; omega
    have HB : Hid (bef a b = decide (n < m)) := by
      show _ = _
      rw [Bool.eq_iff_iff, hiff, decide_eq_true_eq]
      omega
    by_cases h2 : n < m
    · have HQ : Hid (bef a b = true) := by show _ = _; rw [HB.out, decide_eq_true h2]
      rw [HQ.out]
      have d2 : decide (n < m) = true := decide_eq_true h2
      clear h hn hm hiff HB h2
      go_enter Tryd.func41, Tryd.ntmps41
      go_wp2_with fail
      refine (ca w).mono ?_
      rintro e1 w1 ⟨rfl, rfl⟩
      go_wp2_with fail
      refine (cb w1).mono ?_
      rintro e2 w2 ⟨rfl, rfl⟩
      go_wp2_with fail
      refine (ca w2).mono ?_
      rintro e1 w1 ⟨rfl, rfl⟩
      go_wp2_with fail
      refine (cb w1).mono ?_
      rintro e2 w2 ⟨rfl, rfl⟩
      go_wp2
      go_ret
      exact ⟨rfl, rfl⟩
    · have HQ : Hid (bef a b = false) := by show _ = _; rw [HB.out, decide_eq_false h2]
      rw [HQ.out]
      have d2 : decide (n < m) = false := decide_eq_false h2
      clear h hn hm hiff HB h2
      go_enter Tryd.func41, Tryd.ntmps41
      go_wp2_with fail
      refine (ca w).mono ?_
      rintro e1 w1 ⟨rfl, rfl⟩
      go_wp2_with fail
      refine (cb w1).mono ?_
      rintro e2 w2 ⟨rfl, rfl⟩
      go_wp2_with fail
      refine (ca w2).mono ?_
      rintro e1 w1 ⟨rfl, rfl⟩
      go_wp2_with fail
      refine (cb w1).mono ?_
      rintro e2 w2 ⟨rfl, rfl⟩
      go_wp2
      go_ret
      exact ⟨rfl, rfl⟩
theorem us_take (l : List Nat) (k : Nat) : us (l.take k) = (us l).take k := by unfold us; rw [List.map_take]
theorem Vals.take {w : World} {A : Option Addr} {l : List Value} (h : Vals w A l) (k : Nat) : Vals w A (l.take k) := by
  rcases h with rfl | ⟨ad, rfl, hb, hc⟩
  · left; simp
  · exact Or.inr ⟨ad, rfl, hb, fun j x hx => hc j x (by rw [List.getElem?_take] at hx; split at hx <;> first | exact hx | cases hx)⟩
/-- What lies before place k. -/
def prv (l : List Nat) : Nat → Option Nat
  | 0 => none
  | k + 1 => l[k]?
theorem ordE_step (l : List Nat) (k : Nat) (h : k < l.length) : ordE (prv l k) (l.drop k) = if 4096 ≤ l[k]'h then 7 else if notBef (l[k]'h) (prv l k) = true then 1 else ordE (prv l (k + 1)) (l.drop (k + 1)) := by
  rw [drop_at l k h]
  show (if 4096 ≤ l[k] then 7 else if notBef (l[k]'h) (prv l k) = true then 1 else ordE (some l[k]) (l.drop (k + 1))) = _
  rw [show prv l (k + 1) = some l[k] from List.getElem?_eq_getElem h]
theorem small_take {l : List Nat} (h : Small16 l) (k : Nat) : Small16 (l.take k) := fun x hx => h x (List.mem_of_mem_take hx)
theorem notBef_cmp (s q : Nat) : notBef s (some q) = decide (0 ≤ cmpS q s) := by
  show (!decide (cmpS q s < 0)) = _
  by_cases h : cmpS q s < 0
  · rw [decide_eq_true h, decide_eq_false (by omega)]; rfl
  · rw [decide_eq_false h, decide_eq_true (by omega)]; rfl
set_option maxRecDepth 100000 in
set_option maxHeartbeats 4000000 in
theorem valid_any (A : Option Addr) (n c : Nat) (l : List Nat) (w : World) (hA0 : Vals w A (us l)) (Hn : Hid (n = l.length)) (HS : Hid (Small16 l)) (hn : n ≤ 1000000) (hnc : n ≤ c) :
    Calls Tryd.prog 11 #[.slice A n c] w (RetV w (.int .i64 (valE l))) := by
  obtain ⟨S, HSS⟩ : ∃ S, Hid (S = valE l) := ⟨_, rfl⟩
  rw [← HSS.out]
  have HA := hide hA0
  clear hA0
  by_cases h4 : 400 < n
  · have HY : Hid (S = 3) := by show S = 3; rw [HSS.out]; unfold valE; rw [if_pos (by rw [← Hn.out]; exact h4)]
    have d : decide (400 < (n : Int)) = true := decide_eq_true (by omega)
    clear h4
    go_enter Tryd.func11, Tryd.ntmps11
    go_wp2
    go_ret
    exact ⟨by rw [HY.out]; rfl, Up.refl _⟩
  have HV : Hid (S = if ordE none l ≠ 0 then ordE none l else if antiB l then 0 else 1) := by
    show S = _
    rw [HSS.out]
    unfold valE
    rw [if_neg (by rw [← Hn.out]; exact h4)]
  have d : decide (400 < (n : Int)) = false := decide_eq_false (by omega)
  clear h4
  go_enter Tryd.func11, Tryd.ntmps11
  go_wp2
  go_loopw [12] (fun v wr => ∃ k : Nat, v = .int .i64 (k : Int) ∧ k ≤ n ∧ Hid (ordE none l = ordE (prv l k) (l.drop k)) ∧ Up w wr) (fun v _ => n - (intOf v).toNat)
  case atStart => exact ⟨0, rfl, by omega, rfl, Up.refl _⟩
  case round =>
    obtain ⟨k, rfl, hk, HX, hup⟩ := hrel
    by_cases hlt : k < n
    · have hk1 : k < l.length := by rw [← Hn.out]; exact hlt
      obtain ⟨p, Hp⟩ : ∃ p, Hid (p = l[k]'hk1) := ⟨_, rfl⟩
      have hp16 : p < 65536 := by rw [Hp.out]; exact HS.out _ (List.getElem_mem hk1)
      have hv := us_at hk1
      rw [← Hp.out] at hv
      obtain ⟨ad, hAd, hb, hcell⟩ := (HA.out.up hup).at_ hv
      have HX2 : Hid (ordE none l = if 4096 ≤ p then 7 else if notBef p (prv l k) = true then 1 else ordE (prv l (k + 1)) (l.drop (k + 1))) := by
        show _ = _
        rw [HX.out, ordE_step l k hk1, ← Hp.out]
      have hin := inr_any p wr
      clear hv HX
      by_cases h40 : p < 4096
      · rw [decide_eq_true h40] at hin
        rw [if_neg (show ¬ 4096 ≤ p by omega)] at HX2
        by_cases hk0 : k = 0
        · have HX3 : Hid (ordE none l = ordE (prv l (k + 1)) (l.drop (k + 1))) := by show _ = _; rw [HX2.out, hk0]; rfl
          have d0 : decide (0 < k) = false := decide_eq_false (by omega)
          subst hAd
          clear h40 HX2 hk0
          go_wp2_with fail
          refine hin.mono ?_
          rintro e w1 ⟨rfl, rfl⟩
          go_wp2
          go_roundw
          case rel => exact ⟨k + 1, by go_num, by omega, HX3.out, hup⟩
          case measure => simp [intOf]; omega
        · obtain ⟨j, hkj⟩ : ∃ j, k = j + 1 := ⟨k - 1, by omega⟩
          have hj1 : j < l.length := by omega
          obtain ⟨q, Hq⟩ : ∃ q, Hid (q = l[j]'hj1) := ⟨_, rfl⟩
          have hq16 : q < 65536 := by rw [Hq.out]; exact HS.out _ (List.getElem_mem hj1)
          have hv2 := us_at hj1
          rw [← Hq.out] at hv2
          obtain ⟨ad', hAd', hb', hcell'⟩ := (HA.out.up hup).at_ hv2
          rw [hAd] at hAd'
          injection hAd' with hAd'
          subst hAd'
          subst hAd
          have HP : Hid (notBef p (prv l k) = decide (0 ≤ cmpS q p)) := by
            show notBef p (prv l k) = _
            rw [hkj]
            show notBef p l[j]? = _
            rw [List.getElem?_eq_getElem hj1, ← Hq.out]
            exact notBef_cmp p q
          rw [HP.out] at HX2
          have hcmp := compare_any q p wr hq16 hp16
          obtain ⟨x, hx⟩ : ∃ x, cmpS q p = x := ⟨_, rfl⟩
          rw [hx] at HX2 hcmp
          have d0 : decide (0 < k) = true := decide_eq_true (by omega)
          have e1 : (k : Int) - 1 = (j : Int) := by omega
          have hjn : j < n := by omega
          clear hv2 h40 HP hx hk0 hkj
          go_wp2_with fail
          refine hin.mono ?_
          rintro e w1 ⟨rfl, rfl⟩
          go_wp2_with fail
          refine hcmp.mono ?_
          rintro e w2 ⟨rfl, hu2⟩
          by_cases h0 : 0 ≤ x
          · have HX3 : Hid (S = 1) := by
              show S = 1
              have e1 : ordE none l = 1 := by rw [HX2.out, if_pos (by simpa using h0)]
              rw [HV.out, e1]
              rfl
            have d0 : decide (0 ≤ x) = true := decide_eq_true h0
            clear h0
            go_wp2
            go_ret
            exact ⟨by rw [HX3.out]; rfl, hup.trans hu2⟩
          · have HX3 : Hid (ordE none l = ordE (prv l (k + 1)) (l.drop (k + 1))) := by
              show _ = _
              rw [HX2.out, if_neg (by simpa using h0)]
            have d0 : decide (0 ≤ x) = false := decide_eq_false h0
            clear h0
            go_wp2
            go_roundw
            case rel => exact ⟨k + 1, by go_num, by omega, HX3.out, hup.trans hu2⟩
            case measure => simp [intOf]; omega
      · rw [decide_eq_false h40] at hin
        have HX3 : Hid (S = 7) := by
          show S = 7
          have e1 : ordE none l = 7 := by rw [HX2.out, if_pos (by omega)]
          rw [HV.out, e1]
          rfl
        subst hAd
        clear h40 HX2
        go_wp2_with fail
        refine hin.mono ?_
        rintro e w1 ⟨rfl, rfl⟩
        go_wp2
        go_ret
        exact ⟨by rw [HX3.out]; rfl, hup⟩
    · have HK : Hid (k = n) := by show k = n; omega
      have HO : Hid (ordE none l = 0) := by
        show _ = _
        rw [HX.out, List.drop_eq_nil_of_le (by rw [← Hn.out, HK.out]; exact Nat.le_refl _)]
        rfl
      have HV2 : Hid (S = if antiB l then 0 else 1) := by show S = _; rw [HV.out, if_neg (by rw [HO.out]; simp)]
      have HI : Hid (Inc l) := (ordE_ok l none HO.out).2.1
      have hge : decide (k < n) = false := decide_eq_false hlt
      clear HX HV
      go_wp2
      go_loopw [35] (fun v wx => ∃ j : Nat, v = .int .i64 (j : Int) ∧ j ≤ n ∧ Hid (∀ (i : Nat) (h : i < l.length), i < j → acc (l.take i) (l[i]'h) = false) ∧ Hid (wx = wr)) (fun v _ => n - (intOf v).toNat)
      case atStart => exact ⟨0, rfl, by omega, fun i h hi => by omega, rfl⟩
      case round =>
        obtain ⟨j, rfl, hj, HF, HW⟩ := hrel
        obtain rfl := HW.out
        by_cases hlt2 : j < n
        · have hj1 : j < l.length := by rw [← Hn.out]; exact hlt2
          obtain ⟨p, Hp⟩ : ∃ p, Hid (p = l[j]'hj1) := ⟨_, rfl⟩
          have hp16 : p < 65536 := by rw [Hp.out]; exact HS.out _ (List.getElem_mem hj1)
          have hv := us_at hj1
          rw [← Hp.out] at hv
          obtain ⟨ad, hAd, hb, hcell⟩ := (HA.out.up hup).at_ hv
          have hacc := acc_any A j c (l.take j) p wr (by rw [us_take]; exact (HA.out.up hup).take j) (by show j = _; rw [List.length_take]; omega) (small_take HS.out j) hp16 (by omega)
          have HB : Hid (∀ b, acc (l.take j) p = b → acc (l.take j) (l[j]'hj1) = b) := by intro b hb; rw [← Hp.out]; exact hb
          obtain ⟨b, hbb⟩ : ∃ b, acc (l.take j) p = b := ⟨_, rfl⟩
          rw [hbb] at hacc
          replace HB := hide (HB.out b hbb)
          subst hAd
          have hjc : j ≤ c := by omega
          clear hv hbb
          go_wp2_with fail
          refine hacc.mono ?_
          rintro e w1 ⟨rfl, rfl⟩
          cases b with
          | true =>
            have HX3 : Hid (S = 1) := by
              show S = 1
              rw [HV2.out, if_neg]
              intro ht
              have := (anti_take HI.out HS.out).1 ht j hj1
              rw [HB.out] at this
              cases this
            go_wp2
            go_ret
            exact ⟨by rw [HX3.out]; rfl, hup⟩
          | false =>
            have HF2 : Hid (∀ (i : Nat) (h : i < l.length), i < j + 1 → acc (l.take i) (l[i]'h) = false) := by
              intro i h hi
              by_cases hij : i < j
              · exact HF.out i h hij
              · have : i = j := by omega
                subst this
                exact HB.out
            go_wp2
            go_roundw
            case rel => exact ⟨j + 1, by go_num, by omega, HF2.out, by first | exact hide rfl | exact hide trivial⟩
            case measure => simp [intOf]; omega
        · have HX3 : Hid (S = 0) := by
            show S = 0
            rw [HV2.out, if_pos]
            refine (anti_take HI.out HS.out).2 fun i h => HF.out i h ?_
            have := Hn.out
            omega
          have hge2 : decide (j < n) = false := decide_eq_false hlt2
          go_wp2
          go_ret
          exact ⟨by rw [HX3.out]; rfl, hup⟩
end Go.Proofs.YtfdlmgjjpcdkpaaDoor
