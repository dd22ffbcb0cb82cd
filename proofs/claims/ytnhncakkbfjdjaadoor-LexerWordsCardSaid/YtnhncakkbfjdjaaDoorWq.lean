/- Walks: names and tokens, by the reference. -/
import Derived.Test.YtnhncakkbfjdjaaDoorWp
namespace Go.Proofs.YtnhncakkbfjdjaaDoor
open Go.RowKit

def namB (l : List Nat) : Bool := match l with | [] => false | c :: r => isL c && decide (cnt isLD (c :: r) = (c :: r).length) && decide ((c :: r).length ≤ 24)
theorem nam_eq (l : List Nat) : nam l = namB l := by
  unfold nam
  rcases tok_cases l with h0 | ⟨c, r, rfl, hL, h24, e⟩ | ⟨c, r, v, rfl, hL, hD, hv, e⟩ | ⟨r, m, k, rfl, hm, e⟩ | ⟨c, r, rfl, hS, e⟩
  · rw [whl_zero l h0]
    cases l with
    | nil => rfl
    | cons c r =>
      by_cases hL : isL c = true
      · have h24 : ¬ cnt isLD (c :: r) ≤ 24 := by
          intro h24
          have h1 : 1 ≤ cnt isLD (c :: r) := cnt_pos _ _ _ (isL_LD hL)
          unfold tok at h0
          simp only [hL, h24, if_true] at h0
          omega
        symm
        show (isL c && decide (cnt isLD (c :: r) = (c :: r).length) && decide ((c :: r).length ≤ 24)) = false
        by_cases h : cnt isLD (c :: r) = (c :: r).length
        · rw [decide_eq_false (by omega : ¬ (c :: r).length ≤ 24)]; simp
        · rw [decide_eq_false h]; simp
      · symm
        show (isL c && decide (cnt isLD (c :: r) = (c :: r).length) && decide ((c :: r).length ≤ 24)) = false
        simp [hL]
  · have hle := cnt_le isLD (c :: r)
    by_cases h : cnt isLD (c :: r) < (c :: r).length
    · rw [whl_lt _ (by rw [e]; exact h)]
      symm
      show (isL c && decide (cnt isLD (c :: r) = (c :: r).length) && decide ((c :: r).length ≤ 24)) = false
      rw [decide_eq_false (by omega)]; simp
    · rw [whl_eq _ (by rw [e]; exact h), e]
      symm
      show (isL c && decide (cnt isLD (c :: r) = (c :: r).length) && decide ((c :: r).length ≤ 24)) = true
      rw [hL, decide_eq_true (by omega), decide_eq_true (by omega)]; rfl
  · have hk : ((whl (c :: r)).kind == 1) = false := by
      rcases whl_kind (c :: r) with h | h
      · rw [h]; rfl
      · rw [h, e]; rfl
    rw [hk]
    symm
    show (isL c && decide (cnt isLD (c :: r) = (c :: r).length) && decide ((c :: r).length ≤ 24)) = false
    rw [hL]; rfl
  · have hk : ((whl (34 :: r)).kind == 1) = false := by
      rcases whl_kind (34 :: r) with h | h
      · rw [h]; rfl
      · rw [h, e]; rfl
    rw [hk]
    rfl
  · have hk : ((whl (c :: r)).kind == 1) = false := by
      rcases whl_kind (c :: r) with h | h
      · rw [h]; rfl
      · rw [h, e]; rfl
    rw [hk]
    symm
    show (isL c && decide (cnt isLD (c :: r) = (c :: r).length) && decide ((c :: r).length ≤ 24)) = false
    rw [(sym_not hS).2.1]; rfl
set_option maxRecDepth 100000 in
set_option maxHeartbeats 2000000 in
theorem risName_any (s : ByteArray) (w : World) (hs : s.size ≤ 100000) : Calls Tryd.prog 22 #[.string s] w fun e w' => e = .returned (.bool (nam (by_ s))) ∧ w = w' := by
  obtain ⟨x, Hx⟩ : ∃ x, Hid (x = nam (by_ s)) := ⟨_, rfl⟩
  rw [← Hx.out]
  match hl : by_ s with
  | [] =>
    have h0 : s.size = 0 := by rw [← by_len, hl]; rfl
    obtain ⟨e1, e2⟩ := toList_nil s h0
    have HT : Hid (x = false) := by show _ = _; rw [Hx.out, nam_eq, hl]; rfl
    clear hl h0
    go_enter Tryd.func22, Tryd.ntmps22
    go_wp2
    go_ret
    exact ⟨by rw [HT.out]; rfl, rfl⟩
  | c :: r =>
    have h0 : 0 < s.size := by rw [← by_len, hl]; simp
    have hc : c < 256 := by_lt s c (by rw [hl]; simp)
    have a0 : ((s[0]'h0).toNat : Int) = (c : Int) := by rw [u8_at s 0 h0, hl]; rfl
    obtain ⟨e1, e2⟩ := toList_ne s h0
    have HN : Hid (x = (isL c && decide (cnt isLD (by_ s) = s.size) && decide (s.size ≤ 24))) := by show _ = _; rw [Hx.out, nam_eq, ← by_len, hl]; rfl
    have Hl := hide hl
    clear hl
    by_cases h24 : s.size ≤ 24
    · have d24 : decide ((24 : Int) < s.size) = false := decide_eq_false (by omega)
      by_cases hL : isL c = true
      · have HL := hide hL
        clear hL
        go_enter Tryd.func22, Tryd.ntmps22
        go_wp2_with fail
        refine (risL_any c _ hc).mono ?_
        rw [HL.out]
        rintro e w' ⟨rfl, rfl⟩
        go_wp2
        go_loop [3] (fun i => ∃ k : Nat, i = .int .i64 k ∧ k ≤ s.size ∧ Hid (∀ j, j < k → isLD ((by_ s).getD j 0) = true)) (fun i => s.size - (intOf i).toNat)
        case atStart => exact ⟨0, rfl, by omega, fun j hj => by omega⟩
        case round =>
          obtain ⟨k, rfl, hk, H⟩ := hrel
          by_cases hlt : k < s.size
          · obtain ⟨c, Hc⟩ : ∃ c, Hid (c = (by_ s).getD k 0) := ⟨_, rfl⟩
            have hat : ((s[k]'hlt).toNat : Int) = (c : Int) := by rw [u8_at s k hlt, Hc.out]
            have hc : c < 256 := by rw [Hc.out]; exact by_getD_lt s k
            by_cases hL : isL c = true
            · have HLc := hide hL
              have HK : Hid (∀ j, j < k + 1 → isLD ((by_ s).getD j 0) = true) := fun j hj => by rcases Nat.lt_or_ge j k with h | h; exact H.out j h; rw [show j = k by omega, ← Hc.out]; exact isL_LD hL
              clear hL
              go_wp2_with fail
              refine (risL_any c _ hc).mono ?_
              rw [HLc.out]
              rintro e w' ⟨rfl, rfl⟩
              go_wp2
              go_round
              case rel => exact ⟨k + 1, by go_num, by omega, HK⟩
              case measure => simp [intOf]; omega
            · have HLc := hide (Bool.eq_false_iff.2 hL)
              clear hL
              by_cases hD : isD c = true
              · have HDc := hide hD
                have HK : Hid (∀ j, j < k + 1 → isLD ((by_ s).getD j 0) = true) := fun j hj => by rcases Nat.lt_or_ge j k with h | h; exact H.out j h; rw [show j = k by omega, ← Hc.out]; unfold isLD; rw [hD]; simp
                clear hD
                go_wp2_with fail
                refine (risL_any c _ hc).mono ?_
                rw [HLc.out]
                rintro e w' ⟨rfl, rfl⟩
                go_wp2_with fail
                refine (risD_any c _ hc).mono ?_
                rw [HDc.out]
                rintro e w' ⟨rfl, rfl⟩
                go_wp2
                go_round
                case rel => exact ⟨k + 1, by go_num, by omega, HK⟩
                case measure => simp [intOf]; omega
              · have HDc := hide (Bool.eq_false_iff.2 hD)
                have hcnt : cnt isLD (by_ s) = k := cnt_eq isLD (by_ s) k (by rw [by_len]; omega) H.out (fun _ => by rw [← Hc.out]; unfold isLD; rw [HLc.out, HDc.out]; rfl)
                have HT : Hid (x = false) := by show _ = _; rw [HN.out, hcnt, decide_eq_false (by omega : ¬ k = s.size)]; simp
                clear hD hcnt
                go_wp2_with fail
                refine (risL_any c _ hc).mono ?_
                rw [HLc.out]
                rintro e w' ⟨rfl, rfl⟩
                go_wp2_with fail
                refine (risD_any c _ hc).mono ?_
                rw [HDc.out]
                rintro e w' ⟨rfl, rfl⟩
                go_wp2
                go_ret
                exact ⟨by rw [HT.out]; rfl, rfl⟩
          · have hcnt : cnt isLD (by_ s) = s.size := cnt_eq isLD (by_ s) s.size (by rw [by_len]; omega) (fun j hj => H.out j (by omega)) (fun h => by rw [by_len] at h; omega)
            have HT : Hid (x = true) := by show _ = _; rw [HN.out, hcnt, HL.out, decide_eq_true (rfl : s.size = s.size), decide_eq_true h24]; rfl
            clear hcnt
            go_wp2
            go_ret
            exact ⟨by rw [HT.out]; rfl, rfl⟩
      · have HT : Hid (x = false) := by show _ = _; rw [HN.out, Bool.eq_false_iff.2 hL]; rfl
        have HL := hide (Bool.eq_false_iff.2 hL)
        clear hL
        go_enter Tryd.func22, Tryd.ntmps22
        go_wp2_with fail
        refine (risL_any c _ hc).mono ?_
        rw [HL.out]
        rintro e w' ⟨rfl, rfl⟩
        go_wp2
        go_ret
        exact ⟨by rw [HT.out]; rfl, rfl⟩
    · have d24 : decide ((24 : Int) < s.size) = true := decide_eq_true (by omega)
      have HT : Hid (x = false) := by show _ = _; rw [HN.out, decide_eq_false h24]; simp
      go_enter Tryd.func22, Tryd.ntmps22
      go_wp2
      go_ret
      exact ⟨by rw [HT.out]; rfl, rfl⟩
end Go.Proofs.YtnhncakkbfjdjaaDoor
