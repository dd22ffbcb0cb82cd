/- Walks: the reference on families: the minimal and the maximal sets, checked. -/
import Derived.Test.YtfdlmgjjpcdkpaaDoorFt
namespace Go.Proofs.YtfdlmgjjpcdkpaaDoor
open Go.RowKit

def allB (p : Nat → Bool) (k : Nat) : Bool := (List.range k).all p
theorem allB_succ (p : Nat → Bool) (k : Nat) : allB p (k + 1) = (allB p k && p k) := by unfold allB; rw [List.range_succ, List.all_append]; simp
/-- Contains the set at i no other one among the first k? -/
def minB (s : List Nat) (i k : Nat) : Bool := allB (fun j => j == i || !con (s.getD i 0) (s.getD j 0)) k
def maxB (s : List Nat) (i k : Nat) : Bool := allB (fun j => j == i || !con (s.getD j 0) (s.getD i 0)) k
theorem getD_at {l : List Nat} {j : Nat} (h : j < l.length) : l.getD j 0 = l[j]'h := by simp [List.getD, h]
theorem allB_iff (p : Nat → Bool) (k : Nat) : allB p k = true ↔ ∀ j, j < k → p j = true := by
  unfold allB
  rw [List.all_eq_true]
  simp only [List.mem_range]
theorem minB_all {s : List Nat} (hd : s.Nodup) {i : Nat} (hi : i < s.length) : minB s i s.length = isMin s (s[i]'hi) := by
  rw [Bool.eq_iff_iff]
  unfold minB isMin
  rw [allB_iff, List.all_eq_true]
  constructor
  · intro h t ht
    obtain ⟨j, hj, rfl⟩ := List.getElem_of_mem ht
    have := h j hj
    rw [getD_at hj, getD_at hi, Bool.or_eq_true, beq_iff_eq] at this
    rw [Bool.or_eq_true, beq_iff_eq]
    rcases this with h1 | h1
    · left; subst h1; rfl
    · exact .inr h1
  · intro h j hj
    have := h _ (List.getElem_mem hj)
    rw [Bool.or_eq_true, beq_iff_eq] at this
    rw [getD_at hj, getD_at hi, Bool.or_eq_true, beq_iff_eq]
    rcases this with h1 | h1
    · exact .inl (nodup_inj hd _ _ h1)
    · exact .inr h1
theorem maxB_all {s : List Nat} (hd : s.Nodup) {i : Nat} (hi : i < s.length) : maxB s i s.length = isMax s (s[i]'hi) := by
  rw [Bool.eq_iff_iff]
  unfold maxB isMax
  rw [allB_iff, List.all_eq_true]
  constructor
  · intro h t ht
    obtain ⟨j, hj, rfl⟩ := List.getElem_of_mem ht
    have := h j hj
    rw [getD_at hj, getD_at hi, Bool.or_eq_true, beq_iff_eq] at this
    rw [Bool.or_eq_true, beq_iff_eq]
    rcases this with h1 | h1
    · left; subst h1; rfl
    · exact .inr h1
  · intro h j hj
    have := h _ (List.getElem_mem hj)
    rw [Bool.or_eq_true, beq_iff_eq] at this
    rw [getD_at hj, getD_at hi, Bool.or_eq_true, beq_iff_eq]
    rcases this with h1 | h1
    · exact .inl (nodup_inj hd _ _ h1)
    · exact .inr h1
theorem filter_step {l : List Nat} (p : Nat → Bool) {k : Nat} (h : k < l.length) : (l.take (k + 1)).filter p = (l.take k).filter p ++ (if p (l[k]'h) then [l[k]'h] else []) := by
  rw [List.take_add_one, List.getElem?_eq_getElem h, List.filter_append]
  simp [List.filter_cons]
set_option maxRecDepth 100000 in
set_option maxHeartbeats 8000000 in
theorem rleast_any (A : Option Addr) (n c : Nat) (l : List Nat) (w : World) (hA0 : Vals w A (us l)) (Hn : Hid (n = l.length)) (HS : Hid (Small16 l)) (hn : n ≤ 500000) :
    Calls Tryd.prog 46 #[.slice A n c] w (RetL w (minS l)) := by
  have hsorted := fun w hA => rsorted_any A n c l w hA Hn HS hn
  obtain ⟨S, HSS⟩ : ∃ S, Hid (S = minS l) := ⟨_, rfl⟩
  rw [← HSS.out]
  obtain ⟨s, Hs⟩ : ∃ s, Hid (s = srt l) := ⟨_, rfl⟩
  rw [← Hs.out] at hsorted
  have HD : Hid (s.Nodup) := by show s.Nodup; rw [Hs.out]; exact inc_nodup (srt_inc l)
  have HX16 : Hid (∀ x ∈ s, x < 65536) := by show ∀ x ∈ s, x < 65536; intro x hx; rw [Hs.out] at hx; exact HS.out x ((mem_srt l x).1 hx)
  have HSF : Hid (S = s.filter (isMin s)) := by show S = _; rw [HSS.out, Hs.out]; rfl
  obtain ⟨m, Hm⟩ : ∃ m, Hid (m = s.length) := ⟨_, rfl⟩
  have hm : m ≤ 500000 := by
    have h1 := srt_len l
    rw [← Hs.out, ← Hm.out, ← Hn.out] at h1
    omega
  unfold RetL at hsorted
  rw [← Hm.out] at hsorted
  go_enter Tryd.func46, Tryd.ntmps46
  go_wp2_with fail
  refine (hsorted w hA0).mono ?_
  clear hsorted hA0
  rintro e w1 ⟨v, rfl, hown0, hu1⟩
  obtain ⟨A4, c4, rfl, hc4, hV4, _, _⟩ := own_vals hown0
  have HV := hide hV4
  clear hown0 hV4
  go_wp2
  go_loopw [3, 5] (fun v3 v5 wr => ∃ (i q : Nat) (ls : List Nat), v5 = .int .i64 (i : Int) ∧ i ≤ m ∧ q ≤ i ∧ wr.ownsRow w1.heap.size 28 1 v3 q (us ls) ∧ Hid (ls = (s.take i).filter (isMin s)) ∧ Up w1 wr) (fun _ v5 _ => m - (intOf v5).toNat)
  case atStart => exact ⟨0, 0, [], rfl, by omega, by omega, World.ownsRow_nil _ _ _ _, rfl, Up.refl _⟩
  case round =>
    obtain ⟨i, q, ls, rfl, hi, hqi, hown, HL, hup⟩ := hrel
    by_cases hlt : i < m
    · have hi1 : i < s.length := by rw [← Hm.out]; exact hlt
      obtain ⟨x, Hx⟩ : ∃ x, Hid (x = s[i]'hi1) := ⟨_, rfl⟩
      have hx16 : x < 65536 := by rw [Hx.out]; exact HX16.out _ (List.getElem_mem hi1)
      have hv := us_at hi1
      rw [← Hx.out] at hv
      have HXD : Hid (s.getD i 0 = x) := by show _ = _; rw [getD_at hi1, Hx.out]
      have hlt' : decide (i < m) = true := decide_eq_true hlt
      go_wp2
      go_loopw [6, 7] (fun v6 v7 wy => ∃ (j : Nat) (b : Bool), v7 = .int .i64 (j : Int) ∧ j ≤ m ∧ v6 = .bool b ∧ Hid (b = minB s i j) ∧ Up wr wy) (fun _ v7 _ => m - (intOf v7).toNat)
      case atStart => exact ⟨0, true, rfl, by omega, rfl, rfl, Up.refl _⟩
      case round =>
        rename_i wr0 _ _
        obtain ⟨j, b, rfl, hj, rfl, HB, hupy⟩ := hrel
        have hup1 := hup.trans hupy
        obtain ⟨ad, hAd, hb, hcell⟩ := (HV.out.up hup1).at_ hv
        subst hAd
        by_cases hjm : j < m
        · have hj1 : j < s.length := by rw [← Hm.out]; exact hjm
          obtain ⟨y, Hy⟩ : ∃ y, Hid (y = s[j]'hj1) := ⟨_, rfl⟩
          have hy16 : y < 65536 := by rw [Hy.out]; exact HX16.out _ (List.getElem_mem hj1)
          have hv2 := us_at hj1
          rw [← Hy.out] at hv2
          obtain ⟨ad', hAd', hb', hcell'⟩ := (HV.out.up hup1).at_ hv2
          injection hAd' with hAd'
          subst hAd'
          have dm : decide (j < m) = true := decide_eq_true hjm
          have HYD : Hid (s.getD j 0 = y) := by show _ = _; rw [getD_at hj1, Hy.out]
          have HB2 : Hid (minB s i (j + 1) = (b && (j == i || !con x y))) := by
            show _ = _
            unfold minB
            rw [allB_succ]
            show (minB s i j && _) = _
            rw [← HB.out, HXD.out, HYD.out]
          by_cases hij : i = j
          · have d0 : ((i : Int) != (j : Int)) = false := by rw [bne_eq_false_iff_eq]; omega
            have HB3 : Hid (b = minB s i (j + 1)) := by show b = _; rw [HB2.out, hij]; simp
            clear hij hv2 HB2
            go_wp2
            go_quiet (fail)
            go_wp2
            go_roundw
            case rel => exact ⟨j + 1, b, by go_num, by omega, rfl, HB3.out, hupy.drewN _⟩
            case measure => simp [intOf]; omega
          · have d0 : ((i : Int) != (j : Int)) = true := by rw [bne_iff_ne]; omega
            have hcall := fun w => rcon_any x y w hx16 hy16
            have HB3 : Hid (minB s i (j + 1) = (b && !con x y)) := by
              show _ = _
              rw [HB2.out]
              have : (j == i) = false := by rw [beq_eq_false_iff_ne]; omega
              rw [this]
              rfl
            obtain ⟨r, hr⟩ : ∃ r, con x y = r := ⟨_, rfl⟩
            rw [hr] at hcall HB3
            clear hr hij hv2 HB2
            go_wp2
            go_quiet ((go_at_call 42; with_reducible exact Calls.quiet_of_same (hcall _)))
            cases r with
            | true =>
              have HB4 : Hid (false = minB s i (j + 1)) := by show _ = _; rw [HB3.out]; simp
              go_wp2
              go_roundw
              case rel => exact ⟨j + 1, false, by go_num, by omega, rfl, HB4.out, hupy.drewN _⟩
              case measure => simp [intOf]; omega
            | false =>
              have HB4 : Hid (b = minB s i (j + 1)) := by show _ = _; rw [HB3.out]; simp
              go_wp2
              go_roundw
              case rel => exact ⟨j + 1, b, by go_num, by omega, rfl, HB4.out, hupy.drewN _⟩
              case measure => simp [intOf]; omega
        · have dm : decide (j < m) = false := decide_eq_false hjm
          have HJ : Hid (b = isMin s x) := by
            show b = _
            have : j = s.length := by have := Hm.out; omega
            rw [HB.out, this, minB_all HD.out hi1, Hx.out]
          have HF := filter_step (isMin s) hi1
          rw [← Hx.out, ← HJ.out, ← HL.out] at HF
          replace HF := hide HF
          have hown1 := own_up hown hupy
          have hsz := hup1.size
          cases b with
          | true =>
            have HF2 : Hid ((s.take (i + 1)).filter (isMin s) = ls ++ [x]) := HF.out
            go_wp2_with (at_builtin; refine wp_appV rfl _ _ 22 28 rfl w1.heap.size (.int .u16 0) 2 Tryd.underlying22 Tryd.info28 rfl (by decide) _ q _ rfl (hown1.alloc _) (some ⟨wr.heap.size, 0, none⟩) 1 1 (us [x]) rfl rfl (us_one _) (vals_one _ _ _) (by omega) (by simp; omega) ?_; intro v1 w5 hown5 hgrow5)
            have hup5 : Up w1 w5 := up_append hup1 hown1 hgrow5
            rw [us_snoc] at hown5
            go_roundw
            case rel => exact ⟨i + 1, q + 1, ls ++ [x], by go_num, by omega, by omega, hown5, HF2.out.symm, hup5⟩
            case measure => simp [intOf]; omega
          | false =>
            have HF2 : Hid ((s.take (i + 1)).filter (isMin s) = ls) := by show _ = _; rw [HF.out]; simp
            go_wp2
            go_roundw
            case rel => exact ⟨i + 1, q, ls, by go_num, by omega, by omega, hown1, HF2.out.symm, hup1⟩
            case measure => simp [intOf]; omega
    · have HE : Hid (S = ls) := by show S = ls; rw [HL.out, HSF.out, List.take_of_length_le (by rw [← Hm.out]; omega)]
      have hge : decide (i < m) = false := decide_eq_false hlt
      have hlen := own_len hown
      have hown9 := own_mono hown hu1.size
      rw [← hlen] at hown9
      clear hown
      go_wp2
      go_ret
      exact ⟨_, rfl, by rw [HE.out]; exact hown9, hu1.trans hup⟩
set_option maxRecDepth 100000 in
set_option maxHeartbeats 8000000 in
theorem rgreatest_any (A : Option Addr) (n c : Nat) (l : List Nat) (w : World) (hA0 : Vals w A (us l)) (Hn : Hid (n = l.length)) (HS : Hid (Small16 l)) (hn : n ≤ 500000) :
    Calls Tryd.prog 51 #[.slice A n c] w (RetL w (maxS l)) := by
  have hsorted := fun w hA => rsorted_any A n c l w hA Hn HS hn
  obtain ⟨S, HSS⟩ : ∃ S, Hid (S = maxS l) := ⟨_, rfl⟩
  rw [← HSS.out]
  obtain ⟨s, Hs⟩ : ∃ s, Hid (s = srt l) := ⟨_, rfl⟩
  rw [← Hs.out] at hsorted
  have HD : Hid (s.Nodup) := by show s.Nodup; rw [Hs.out]; exact inc_nodup (srt_inc l)
  have HX16 : Hid (∀ x ∈ s, x < 65536) := by show ∀ x ∈ s, x < 65536; intro x hx; rw [Hs.out] at hx; exact HS.out x ((mem_srt l x).1 hx)
  have HSF : Hid (S = s.filter (isMax s)) := by show S = _; rw [HSS.out, Hs.out]; rfl
  obtain ⟨m, Hm⟩ : ∃ m, Hid (m = s.length) := ⟨_, rfl⟩
  have hm : m ≤ 500000 := by
    have h1 := srt_len l
    rw [← Hs.out, ← Hm.out, ← Hn.out] at h1
    omega
  unfold RetL at hsorted
  rw [← Hm.out] at hsorted
  go_enter Tryd.func51, Tryd.ntmps51
  go_wp2_with fail
  refine (hsorted w hA0).mono ?_
  clear hsorted hA0
  rintro e w1 ⟨v, rfl, hown0, hu1⟩
  obtain ⟨A4, c4, rfl, hc4, hV4, _, _⟩ := own_vals hown0
  have HV := hide hV4
  clear hown0 hV4
  go_wp2
  go_loopw [3, 5] (fun v3 v5 wr => ∃ (i q : Nat) (ls : List Nat), v5 = .int .i64 (i : Int) ∧ i ≤ m ∧ q ≤ i ∧ wr.ownsRow w1.heap.size 28 1 v3 q (us ls) ∧ Hid (ls = (s.take i).filter (isMax s)) ∧ Up w1 wr) (fun _ v5 _ => m - (intOf v5).toNat)
  case atStart => exact ⟨0, 0, [], rfl, by omega, by omega, World.ownsRow_nil _ _ _ _, rfl, Up.refl _⟩
  case round =>
    obtain ⟨i, q, ls, rfl, hi, hqi, hown, HL, hup⟩ := hrel
    by_cases hlt : i < m
    · have hi1 : i < s.length := by rw [← Hm.out]; exact hlt
      obtain ⟨x, Hx⟩ : ∃ x, Hid (x = s[i]'hi1) := ⟨_, rfl⟩
      have hx16 : x < 65536 := by rw [Hx.out]; exact HX16.out _ (List.getElem_mem hi1)
      have hv := us_at hi1
      rw [← Hx.out] at hv
      have HXD : Hid (s.getD i 0 = x) := by show _ = _; rw [getD_at hi1, Hx.out]
      have hlt' : decide (i < m) = true := decide_eq_true hlt
      go_wp2
      go_loopw [6, 7] (fun v6 v7 wy => ∃ (j : Nat) (b : Bool), v7 = .int .i64 (j : Int) ∧ j ≤ m ∧ v6 = .bool b ∧ Hid (b = maxB s i j) ∧ Up wr wy) (fun _ v7 _ => m - (intOf v7).toNat)
      case atStart => exact ⟨0, true, rfl, by omega, rfl, rfl, Up.refl _⟩
      case round =>
        rename_i wr0 _ _
        obtain ⟨j, b, rfl, hj, rfl, HB, hupy⟩ := hrel
        have hup1 := hup.trans hupy
        obtain ⟨ad, hAd, hb, hcell⟩ := (HV.out.up hup1).at_ hv
        subst hAd
        by_cases hjm : j < m
        · have hj1 : j < s.length := by rw [← Hm.out]; exact hjm
          obtain ⟨y, Hy⟩ : ∃ y, Hid (y = s[j]'hj1) := ⟨_, rfl⟩
          have hy16 : y < 65536 := by rw [Hy.out]; exact HX16.out _ (List.getElem_mem hj1)
          have hv2 := us_at hj1
          rw [← Hy.out] at hv2
          obtain ⟨ad', hAd', hb', hcell'⟩ := (HV.out.up hup1).at_ hv2
          injection hAd' with hAd'
          subst hAd'
          have dm : decide (j < m) = true := decide_eq_true hjm
          have HYD : Hid (s.getD j 0 = y) := by show _ = _; rw [getD_at hj1, Hy.out]
          have HB2 : Hid (maxB s i (j + 1) = (b && (j == i || !con y x))) := by
            show _ = _
            unfold maxB
            rw [allB_succ]
            show (maxB s i j && _) = _
            rw [← HB.out, HXD.out, HYD.out]
          by_cases hij : i = j
          · have d0 : ((i : Int) != (j : Int)) = false := by rw [bne_eq_false_iff_eq]; omega
            have HB3 : Hid (b = maxB s i (j + 1)) := by show b = _; rw [HB2.out, hij]; simp
            clear hij hv2 HB2
            go_wp2
            go_quiet (fail)
            go_wp2
            go_roundw
            case rel => exact ⟨j + 1, b, by go_num, by omega, rfl, HB3.out, hupy.drewN _⟩
            case measure => simp [intOf]; omega
          · have d0 : ((i : Int) != (j : Int)) = true := by rw [bne_iff_ne]; omega
            have hcall := fun w => rcon_any y x w hy16 hx16
            have HB3 : Hid (maxB s i (j + 1) = (b && !con y x)) := by
              show _ = _
              rw [HB2.out]
              have : (j == i) = false := by rw [beq_eq_false_iff_ne]; omega
              rw [this]
              rfl
            obtain ⟨r, hr⟩ : ∃ r, con y x = r := ⟨_, rfl⟩
            rw [hr] at hcall HB3
            clear hr hij hv2 HB2
            go_wp2
            go_quiet ((go_at_call 42; with_reducible exact Calls.quiet_of_same (hcall _)))
            cases r with
            | true =>
              have HB4 : Hid (false = maxB s i (j + 1)) := by show _ = _; rw [HB3.out]; simp
              go_wp2
              go_roundw
              case rel => exact ⟨j + 1, false, by go_num, by omega, rfl, HB4.out, hupy.drewN _⟩
              case measure => simp [intOf]; omega
            | false =>
              have HB4 : Hid (b = maxB s i (j + 1)) := by show _ = _; rw [HB3.out]; simp
              go_wp2
              go_roundw
              case rel => exact ⟨j + 1, b, by go_num, by omega, rfl, HB4.out, hupy.drewN _⟩
              case measure => simp [intOf]; omega
        · have dm : decide (j < m) = false := decide_eq_false hjm
          have HJ : Hid (b = isMax s x) := by
            show b = _
            have : j = s.length := by have := Hm.out; omega
            rw [HB.out, this, maxB_all HD.out hi1, Hx.out]
          have HF := filter_step (isMax s) hi1
          rw [← Hx.out, ← HJ.out, ← HL.out] at HF
          replace HF := hide HF
          have hown1 := own_up hown hupy
          have hsz := hup1.size
          cases b with
          | true =>
            have HF2 : Hid ((s.take (i + 1)).filter (isMax s) = ls ++ [x]) := HF.out
            go_wp2_with (at_builtin; refine wp_appV rfl _ _ 22 28 rfl w1.heap.size (.int .u16 0) 2 Tryd.underlying22 Tryd.info28 rfl (by decide) _ q _ rfl (hown1.alloc _) (some ⟨wr.heap.size, 0, none⟩) 1 1 (us [x]) rfl rfl (us_one _) (vals_one _ _ _) (by omega) (by simp; omega) ?_; intro v1 w5 hown5 hgrow5)
            have hup5 : Up w1 w5 := up_append hup1 hown1 hgrow5
            rw [us_snoc] at hown5
            go_roundw
            case rel => exact ⟨i + 1, q + 1, ls ++ [x], by go_num, by omega, by omega, hown5, HF2.out.symm, hup5⟩
            case measure => simp [intOf]; omega
          | false =>
            have HF2 : Hid ((s.take (i + 1)).filter (isMax s) = ls) := by show _ = _; rw [HF.out]; simp
            go_wp2
            go_roundw
            case rel => exact ⟨i + 1, q, ls, by go_num, by omega, by omega, hown1, HF2.out.symm, hup1⟩
            case measure => simp [intOf]; omega
    · have HE : Hid (S = ls) := by show S = ls; rw [HL.out, HSF.out, List.take_of_length_le (by rw [← Hm.out]; omega)]
      have hge : decide (i < m) = false := decide_eq_false hlt
      have hlen := own_len hown
      have hown9 := own_mono hown hu1.size
      rw [← hlen] at hown9
      clear hown
      go_wp2
      go_ret
      exact ⟨_, rfl, by rw [HE.out]; exact hown9, hu1.trans hup⟩
theorem any_drop (l : List Nat) (p : Nat → Bool) (k : Nat) (h : k < l.length) : (l.drop k).any p = (p (l[k]'h) || (l.drop (k + 1)).any p) := by
  rw [drop_at l k h]
  rfl
/-- What is out of range. -/
def far (l : List Nat) : Bool := l.any fun s => decide (4096 ≤ s)
set_option maxRecDepth 100000 in
set_option maxHeartbeats 4000000 in
theorem rchecked_any (A B : Option Addr) (n c m d : Nat) (l out : List Nat) (base : Nat) (w : World) (hA0 : Vals w A (us l)) (Hn : Hid (n = l.length)) (hn : n ≤ 500000) (hown : w.ownsRow base 28 1 (.slice B m d) m (us out)) (hm : m ≤ 500000) :
    Calls Tryd.prog 45 #[.slice A n c, .slice B m d] w fun e w' => ∃ v, e = .returned (.tuple #[v, .int .i64 (if far l then ([], 7) else if 400 < m then ([], 3) else (out, 0) : List Nat × Int).2]) ∧ w'.ownsRow base 28 1 v (if far l then ([], 7) else if 400 < m then ([], 3) else (out, 0) : List Nat × Int).1.length (us (if far l then ([], 7) else if 400 < m then ([], 3) else (out, 0) : List Nat × Int).1) ∧ w' = w := by
  have hlen := own_len hown
  obtain ⟨P, HP⟩ : ∃ P : List Nat × Int, Hid (P = if far l then ([], 7) else if 400 < m then ([], 3) else (out, 0)) := ⟨_, rfl⟩
  rw [← HP.out]
  have HA := hide hA0
  have HO := hide hown
  clear hA0 hown
  go_enter Tryd.func45, Tryd.ntmps45
  go_wp2
  go_loop [6] (fun v => ∃ k : Nat, v = .int .i64 (k : Int) ∧ k ≤ n ∧ Hid (far l = far (l.drop k))) (fun v => n - (intOf v).toNat)
  case atStart => exact ⟨0, rfl, by omega, rfl⟩
  case round =>
    obtain ⟨k, rfl, hk, HX⟩ := hrel
    by_cases hlt : k < n
    · have hk1 : k < l.length := by rw [← Hn.out]; exact hlt
      obtain ⟨p, Hp⟩ : ∃ p, Hid (p = l[k]'hk1) := ⟨_, rfl⟩
      have hv := us_at hk1
      rw [← Hp.out] at hv
      obtain ⟨ad, hAd, hb, hcell⟩ := HA.out.at_ hv
      subst hAd
      have HX2 : Hid (far l = (decide (4096 ≤ p) || far (l.drop (k + 1)))) := by show _ = _; rw [HX.out, Hp.out]; exact any_drop l _ k hk1
      have hin := rrange_any p w
      clear hv HX
      by_cases h40 : p < 4096
      · have HX3 : Hid (far l = far (l.drop (k + 1))) := by show _ = _; rw [HX2.out, decide_eq_false (by omega)]; rfl
        rw [decide_eq_true h40] at hin
        clear h40 HX2
        go_wp2_with fail
        refine hin.mono ?_
        rintro e w1 ⟨rfl, rfl⟩
        go_wp2
        go_round
        case rel => exact ⟨k + 1, by go_num, by omega, HX3.out⟩
        case measure => simp [intOf]; omega
      · have HX3 : Hid (P = ([], 7)) := by show P = _; rw [HP.out, if_pos (by rw [HX2.out, decide_eq_true (by omega)]; rfl)]
        rw [decide_eq_false h40] at hin
        clear h40 HX2
        go_wp2_with fail
        refine hin.mono ?_
        rintro e w1 ⟨rfl, rfl⟩
        go_wp2
        go_ret2
        exact ⟨.slice none 0 0, by rw [HX3.out]; rfl, by rw [HX3.out]; exact World.ownsRow_nil _ _ _ _, rfl⟩
    · have HX3 : Hid (P = if 400 < m then ([], 3) else (out, 0)) := by
        show P = _
        rw [HP.out, if_neg]
        rw [HX.out, List.drop_eq_nil_of_le (by rw [← Hn.out]; omega)]
        simp [far]
      have hge : decide (k < n) = false := decide_eq_false hlt
      by_cases h4 : 400 < m
      · have HX4 : Hid (P = ([], 3)) := by show P = _; rw [HX3.out, if_pos h4]
        have d4 : decide (400 < (m : Int)) = true := decide_eq_true (by omega)
        clear h4
        go_wp2
        go_ret2
        exact ⟨.slice none 0 0, by rw [HX4.out]; rfl, by rw [HX4.out]; exact World.ownsRow_nil _ _ _ _, rfl⟩
      · have HX4 : Hid (P = (out, 0)) := by show P = _; rw [HX3.out, if_neg h4]
        have d4 : decide (400 < (m : Int)) = false := decide_eq_false (by omega)
        clear h4
        go_wp2
        go_ret2
        exact ⟨_, by rw [HX4.out]; rfl, by rw [HX4.out]; show w.ownsRow base _ 1 _ out.length (us out); rw [hlen]; exact HO.out, rfl⟩
theorem minS_len (l : List Nat) : (minS l).length ≤ l.length := Nat.le_trans (List.length_filter_le _ _) (srt_len l)
set_option maxRecDepth 100000 in
set_option maxHeartbeats 4000000 in
theorem rminimal_any (A : Option Addr) (n c : Nat) (l : List Nat) (w : World) (hA0 : Vals w A (us l)) (Hn : Hid (n = l.length)) (HS : Hid (Small16 l)) (hn : n ≤ 500000) :
    Calls Tryd.prog 15 #[.slice A n c] w (RetP w (minE l)) := by
  have hleast := rleast_any A n c l w hA0 Hn HS hn
  have HA := hide hA0
  clear hA0
  have HE : Hid (∀ m, m = (minS l).length → minE l = if far l then ([], 7) else if 400 < m then ([], 3) else (minS l, 0)) := by
    intro m hm
    rw [hm]
    rfl
  obtain ⟨P, HP⟩ : ∃ P, Hid (P = minE l) := ⟨_, rfl⟩
  have hml : (minS l).length ≤ 500000 := by have h1 := minS_len l; have h2 := Hn.out; omega
  rw [← HP.out] at HE ⊢
  obtain ⟨out, Hout⟩ : ∃ out, Hid (out = minS l) := ⟨_, rfl⟩
  rw [← Hout.out] at hleast HE hml
  unfold RetL at hleast
  obtain ⟨m, hm⟩ : ∃ m, out.length = m := ⟨_, rfl⟩
  rw [hm] at hleast hml
  replace HE := hide (HE.out m hm.symm)
  clear hm
  go_enter Tryd.func15, Tryd.ntmps15
  go_wp2_with fail
  refine hleast.mono ?_
  rintro e w1 ⟨v, rfl, hown, hu1⟩
  obtain ⟨B, d, rfl, _, _, _, _⟩ := own_vals hown
  have hch := rchecked_any A B n c m d l out w.heap.size w1 (HA.out.up hu1) Hn hn hown hml
  rw [← HE.out] at hch
  clear hown
  go_wp2_with fail
  refine hch.mono ?_
  rintro e w2 ⟨v2, rfl, hown2, rfl⟩
  have HO := hide hown2
  clear hown2 hch
  go_wp2
  go_ret2
  exact ⟨_, rfl, HO.out, hu1⟩
theorem maxS_len (l : List Nat) : (maxS l).length ≤ l.length := Nat.le_trans (List.length_filter_le _ _) (srt_len l)
set_option maxRecDepth 100000 in
set_option maxHeartbeats 4000000 in
theorem rmaximal_any (A : Option Addr) (n c : Nat) (l : List Nat) (w : World) (hA0 : Vals w A (us l)) (Hn : Hid (n = l.length)) (HS : Hid (Small16 l)) (hn : n ≤ 500000) :
    Calls Tryd.prog 17 #[.slice A n c] w (RetP w (maxE l)) := by
  have hleast := rgreatest_any A n c l w hA0 Hn HS hn
  have HA := hide hA0
  clear hA0
  have HE : Hid (∀ m, m = (maxS l).length → maxE l = if far l then ([], 7) else if 400 < m then ([], 3) else (maxS l, 0)) := by
    intro m hm
    rw [hm]
    rfl
  obtain ⟨P, HP⟩ : ∃ P, Hid (P = maxE l) := ⟨_, rfl⟩
  have hml : (maxS l).length ≤ 500000 := by have h1 := maxS_len l; have h2 := Hn.out; omega
  rw [← HP.out] at HE ⊢
  obtain ⟨out, Hout⟩ : ∃ out, Hid (out = maxS l) := ⟨_, rfl⟩
  rw [← Hout.out] at hleast HE hml
  unfold RetL at hleast
  obtain ⟨m, hm⟩ : ∃ m, out.length = m := ⟨_, rfl⟩
  rw [hm] at hleast hml
  replace HE := hide (HE.out m hm.symm)
  clear hm
  go_enter Tryd.func17, Tryd.ntmps17
  go_wp2_with fail
  refine hleast.mono ?_
  rintro e w1 ⟨v, rfl, hown, hu1⟩
  obtain ⟨B, d, rfl, _, _, _, _⟩ := own_vals hown
  have hch := rchecked_any A B n c m d l out w.heap.size w1 (HA.out.up hu1) Hn hn hown hml
  rw [← HE.out] at hch
  clear hown
  go_wp2_with fail
  refine hch.mono ?_
  rintro e w2 ⟨v2, rfl, hown2, rfl⟩
  have HO := hide hown2
  clear hown2 hch
  go_wp2
  go_ret2
  exact ⟨_, rfl, HO.out, hu1⟩
end Go.Proofs.YtfdlmgjjpcdkpaaDoor
