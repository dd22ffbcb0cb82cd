/- Walks: integers, by the reference. -/
import Derived.Test.YtnhncakkbfjdjaaDoorWo
namespace Go.Proofs.YtnhncakkbfjdjaaDoor
open Go.RowKit

/-- The integer at the beginning, and its size; the size 0 if there is none. -/
def numR (l : List Nat) : Nat × Nat := match num l with | some v => (v, cnt isD l) | none => (0, 0)
theorem val10_take (l : List Nat) (k n : Nat) (h : k ≤ n) : val10 (l.take k) ≤ val10 (l.take n) := by
  have e : l.take n = l.take k ++ (l.take n).drop k := by
    rw [show l.take k = (l.take n).take k by rw [List.take_take, Nat.min_eq_left h]]
    exact (List.take_append_drop k (l.take n)).symm
  rw [e]
  exact val10_mono _ _
theorem num_zero (l : List Nat) (h : l.head? = some 48) (h2 : 1 < cnt isD l) : numR l = (0, 0) := by unfold numR num; rw [if_pos (Or.inl ⟨h, h2⟩)]
theorem num_big (l : List Nat) (k : Nat) (hk : k ≤ cnt isD l) (h : 9223372036854775808 ≤ val10 (l.take k)) : numR l = (0, 0) := by
  have := val10_take l k _ hk
  unfold numR num; rw [if_pos (Or.inr (by omega))]
theorem num_yes (l : List Nat) (h : ¬ (l.head? = some 48 ∧ 1 < cnt isD l)) (h2 : val10 (l.take (cnt isD l)) < 9223372036854775808) : numR l = (val10 (l.take (cnt isD l)), cnt isD l) := by
  unfold numR num; rw [if_neg (by rintro (h3 | h3); exact h h3; omega)]
/-- The greatest integer. -/
def mostI : Int := 9223372036854775807
set_option maxRecDepth 100000 in
set_option maxHeartbeats 2000000 in
theorem rinteger_any (s : ByteArray) (w : World) (hs : s.size ≤ 100000) (h1 : 0 < s.size) : Calls Tryd.prog 55 #[.string s] w fun e w' => e = .returned (.tuple #[.int .i64 ((numR (by_ s)).1 : Int), .int .i64 ((numR (by_ s)).2 : Int)]) ∧ w = w' := by
  obtain ⟨z, Hz⟩ : ∃ z, Hid (z = (by_ s).getD 0 0) := ⟨_, rfl⟩
  have a0 : ((s[0]'h1).toNat : Int) = (z : Int) := by rw [u8_at s 0 h1, Hz.out]
  have Hh : Hid ((by_ s).head? = some z) := by
    show _ = _
    rw [Hz.out, List.head?_eq_getElem?, List.getD, List.getElem?_eq_getElem (by rw [by_len]; exact h1)]
    rfl
  go_enter Tryd.func55, Tryd.ntmps55
  go_wp2
  go_loop [4, 5] (fun v i => ∃ (k n : Nat), i = .int .i64 k ∧ k ≤ s.size ∧ v = .int .i64 n ∧ Hid (∀ j, j < k → isD ((by_ s).getD j 0) = true) ∧ Hid (n = val10 ((by_ s).take k)) ∧ n < 9223372036854775808 ∧ Hid (1 < k → z ≠ 48)) (fun _ i => s.size - (intOf i).toNat)
  case atStart => exact ⟨0, 0, rfl, by omega, rfl, fun j hj => by omega, rfl, by omega, fun h => by omega⟩
  case round =>
    obtain ⟨k, n, rfl, hk, rfl, HD, HN, hn, HZ⟩ := hrel
    by_cases hlt : k < s.size
    · have hkl : k < (by_ s).length := by rw [by_len]; exact hlt
      obtain ⟨c, Hc⟩ : ∃ c, Hid (c = (by_ s).getD k 0) := ⟨_, rfl⟩
      have hat : ((s[k]'hlt).toNat : Int) = (c : Int) := by rw [u8_at s k hlt, Hc.out]
      have hc : c < 256 := by rw [Hc.out]; exact by_getD_lt s k
      by_cases hd : isD c = true
      · have hdd : 48 ≤ c ∧ c ≤ 57 := by unfold isD at hd; simpa using hd
        have HDk : Hid (∀ j, j < k + 1 → isD ((by_ s).getD j 0) = true) := fun j hj => by rcases Nat.lt_or_ge j k with h | h; exact HD.out j h; rw [show j = k by omega, ← Hc.out]; exact hd
        have hcnt : Hid (k + 1 ≤ cnt isD (by_ s)) := by
          show k + 1 ≤ _
          rcases Nat.lt_or_ge (cnt isD (by_ s)) (k + 1) with h | h
          · have h2 := cnt_stop isD (by_ s) (by omega)
            rw [HDk.out _ h] at h2
            cases h2
          · exact h
        have hval : Hid (val10 ((by_ s).take (k + 1)) = n * 10 + (c - 48)) := by show _ = _; rw [take_snoc' _ _ hkl, val10_snoc, ← HN.out, ← Hc.out]
        have HDc := hide hd
        clear hd
        obtain ⟨d, Hd⟩ : ∃ d, Hid (d = c - 48) := ⟨_, rfl⟩
        have hd9 : d ≤ 9 := by rw [Hd.out]; omega
        have hcd : (c : Int) - 48 = (d : Int) := by rw [Hd.out]; omega
        have hc48 : (48 : Int) ≤ (c : Int) := by omega
        rw [← Hd.out] at hval
        by_cases hzz : 0 < k ∧ z = 48
        · have HT : Hid (numR (by_ s) = (0, 0)) := num_zero _ (by rw [Hh.out, hzz.2]) (by have := hcnt.out; omega)
          have e1 : decide (0 < k) = true := decide_eq_true (by omega)
          have e1' : 0 < k := by omega
          have e2 : ((z : Int) == 48) = true := by rw [hzz.2]; rfl
          clear hzz
          go_wp2_with fail
          refine (risD_any c _ hc).mono ?_
          rw [HDc.out]
          rintro e w' ⟨rfl, rfl⟩
          go_wp2
          go_ret2
          exact ⟨by rw [HT.out]; rfl, rfl⟩
        · have e1 : decide (0 < k) = false ∨ (decide (0 < k) = true ∧ ((z : Int) == 48) = false) := by
            by_cases h0 : 0 < k
            · exact .inr ⟨decide_eq_true (by omega), by rw [beq_eq_false_iff_ne]; omega⟩
            · exact .inl (decide_eq_false (by omega))
          have HZk : Hid (1 < k + 1 → z ≠ 48) := fun h => by omega
          clear hzz
          by_cases hov : n * 10 + d < 9223372036854775808
          · have eo : decide ((9223372036854775807 - (d : Int)) / 10 < (n : Int)) = false := decide_eq_false (by omega)
            rcases e1 with e1 | ⟨e1, e2⟩
            all_goals
              go_wp2_with fail
              refine (risD_any c _ hc).mono ?_
              rw [HDc.out]
              rintro e w' ⟨rfl, rfl⟩
              go_wp2
              go_round
              case rel => exact ⟨k + 1, n * 10 + d, by go_num, by omega, by go_num, HDk, by show _ = _; rw [hval.out], hov, HZk⟩
              case measure => simp [intOf]; omega
          · have HT : Hid (numR (by_ s) = (0, 0)) := num_big _ (k + 1) hcnt.out (by rw [hval.out]; omega)
            have eo : decide ((9223372036854775807 - (d : Int)) / 10 < (n : Int)) = true := decide_eq_true (by omega)
            clear hov
            rcases e1 with e1 | ⟨e1, e2⟩
            all_goals
              go_wp2_with fail
              refine (risD_any c _ hc).mono ?_
              rw [HDc.out]
              rintro e w' ⟨rfl, rfl⟩
              go_wp2
              go_ret2
              exact ⟨by rw [HT.out]; rfl, rfl⟩
      · have hcnt : Hid (cnt isD (by_ s) = k) := cnt_eq isD (by_ s) k (by omega) HD.out (fun _ => by rw [← Hc.out]; simpa using hd)
        have HDc := hide (Bool.eq_false_iff.2 hd)
        have HT : Hid (numR (by_ s) = (n, k)) := by
          show _ = _
          rw [num_yes _ (by rw [hcnt.out, Hh.out]; rintro ⟨h3, h4⟩; exact HZ.out h4 (by simpa using h3)) (by rw [hcnt.out, ← HN.out]; exact hn), hcnt.out, ← HN.out]
        clear hd
        go_wp2_with fail
        refine (risD_any c _ hc).mono ?_
        rw [HDc.out]
        rintro e w' ⟨rfl, rfl⟩
        go_wp2
        go_ret2
        exact ⟨by rw [HT.out]; rfl, rfl⟩
    · have hcnt : Hid (cnt isD (by_ s) = k) := cnt_eq isD (by_ s) k (by rw [by_len]; omega) HD.out (fun h => by rw [by_len] at h; omega)
      have HT : Hid (numR (by_ s) = (n, k)) := by
        show _ = _
        rw [num_yes _ (by rw [hcnt.out, Hh.out]; rintro ⟨h3, h4⟩; exact HZ.out h4 (by simpa using h3)) (by rw [hcnt.out, ← HN.out]; exact hn), hcnt.out, ← HN.out]
      go_wp2
      go_ret2
      exact ⟨by rw [HT.out]; rfl, rfl⟩
end Go.Proofs.YtnhncakkbfjdjaaDoor
