/- Walks: the characters of string literals, by the reference. -/
import Derived.Test.YtnhncakkbfjdjaaDoorWm
namespace Go.Proofs.YtnhncakkbfjdjaaDoor
open Go.RowKit

theorem hxc_hxd (c : Nat) (h : hxd c < 16) : hxc (hxd c) = c := by
  by_cases h1 : 48 ≤ c ∧ c ≤ 57
  · have e : hxd c = c - 48 := by unfold hxd; rw [if_pos h1]
    rw [e]; unfold hxc; rw [if_pos (by omega)]; omega
  · by_cases h2 : 97 ≤ c ∧ c ≤ 102
    · have e : hxd c = c - 87 := by unfold hxd; rw [if_neg h1, if_pos h2]
      rw [e]; unfold hxc; rw [if_neg (by omega)]; omega
    · have e : hxd c = 16 := by unfold hxd; rw [if_neg h1, if_neg h2]
      omega
set_option maxRecDepth 100000 in
set_option maxHeartbeats 1000000 in
theorem rhex_any (c : Nat) (w : World) : Calls Tryd.prog 77 #[.int .u8 (c : Int)] w fun e w' => e = .returned (.int .i64 (hxi c)) ∧ w' = w := by
  go_enter Tryd.func77, Tryd.ntmps77
  go_wp2
  go_loop [3] (fun i => ∃ k : Nat, k ≤ 16 ∧ i = .int .i64 k ∧ Hid (∀ j, j < k → hxc j ≠ c)) (fun i => 16 - (intOf i).toNat)
  case atStart => exact ⟨0, by omega, rfl, fun j hj => by omega⟩
  case round =>
    obtain ⟨k, hk, rfl, H⟩ := hrel
    by_cases hlt : k < 16
    · have hlt' : (k : Int) < 16 := by omega
      have hax := hexAt k hlt
      by_cases he : hxc k = c
      · have e1 : (((hxc k : Nat) : Int) == (c : Int)) = true := by rw [he]; simp
        have HT : Hid (hxi c = (k : Int)) := by
          show _ = _
          unfold hxi
          rw [← he, hxd_hxc k hlt, if_pos hlt]
        clear he
        go_wp2
        go_ret
        exact ⟨by rw [HT.out]; rfl, rfl⟩
      · have e1 : (((hxc k : Nat) : Int) == (c : Int)) = false := by rw [beq_eq_false_iff_ne]; omega
        have He := hide he
        clear he
        go_wp2
        go_round
        case rel => exact ⟨k + 1, by omega, by go_num, fun j hj => by rcases Nat.lt_or_ge j k with h | h; exact H.out j h; rw [show j = k by omega]; exact He.out⟩
        case measure => simp [intOf]; omega
    · have hlt' : ¬ (k : Int) < 16 := by omega
      have HT : Hid (hxi c = -1) := by
        show _ = _
        unfold hxi
        rw [if_neg]
        intro h
        exact H.out (hxd c) (by omega) (hxc_hxd c h)
      go_wp2
      go_ret
      exact ⟨by rw [HT.out]; rfl, rfl⟩
set_option maxRecDepth 100000 in
set_option maxHeartbeats 2000000 in
theorem rchar_hex (s : ByteArray) (w : World) (hs : s.size ≤ 100000) (a b : Nat) (r : List Nat) (hl : by_ s = 92 :: 120 :: a :: b :: r) : Calls Tryd.prog 58 #[.string s] w (RetChr w (chr (by_ s))) := by
  have h4 : 4 ≤ s.size := by rw [← by_len, hl]; simp
  obtain ⟨e1, e2⟩ := toList_ne s (by omega)
  have a0 : ((s[0]'(by omega)).toNat : Int) = 92 := by rw [u8_at s 0 (by omega), hl]; rfl
  have a1 : ((s[1]'(by omega)).toNat : Int) = 120 := by rw [u8_at s 1 (by omega), hl]; rfl
  have a2 : ((s[2]'(by omega)).toNat : Int) = (a : Int) := by rw [u8_at s 2 (by omega), hl]; rfl
  have a3 : ((s[3]'(by omega)).toNat : Int) = (b : Int) := by rw [u8_at s 3 (by omega), hl]; rfl
  have n2 : decide ((s.size : Int) < 2) = false := decide_eq_false (by omega)
  have n4 : decide ((4 : Int) ≤ s.size) = true := decide_eq_true (by omega)
  have HT : Hid (chr (by_ s) = if hxd a < 16 ∧ hxd b < 16 then (16 * hxd a + hxd b, 4) else (0, 0)) := by show _ = _; rw [hl]; rfl
  clear hl
  obtain ⟨x, Hx⟩ : ∃ x, Hid (x = hxd a) := ⟨_, rfl⟩
  obtain ⟨y, Hy⟩ : ∃ y, Hid (y = hxd b) := ⟨_, rfl⟩
  rw [← Hx.out, ← Hy.out] at HT
  have cA : ∀ w, Calls Tryd.prog 77 #[.int .u8 (a : Int)] w fun e w' => e = .returned (.int .i64 (if x < 16 then (x : Int) else -1)) ∧ w' = w := fun w => by rw [Hx.out]; exact rhex_any a w
  have cB : ∀ w, Calls Tryd.prog 77 #[.int .u8 (b : Int)] w fun e w' => e = .returned (.int .i64 (if y < 16 then (y : Int) else -1)) ∧ w' = w := fun w => by rw [Hy.out]; exact rhex_any b w
  by_cases hx : x < 16
  · by_cases hy : y < 16
    · have HT2 : Hid (chr (by_ s) = (16 * x + y, 4)) := by show _ = _; rw [HT.out, if_pos ⟨hx, hy⟩]
      simp only [hx, hy, if_true] at cA cB
      have n1 : decide ((0 : Int) ≤ x) = true := decide_eq_true (by omega)
      have n3 : decide ((0 : Int) ≤ y) = true := decide_eq_true (by omega)
      have w1 : IntKind.i64.wrap (16 * (x : Int)) = 16 * (x : Int) := IntWalk.i64_in _ (by omega)
      have w2 : IntKind.i64.wrap (16 * (x : Int) + (y : Int)) = 16 * (x : Int) + (y : Int) := IntWalk.i64_in _ (by omega)
      go_enter Tryd.func58, Tryd.ntmps58
      go_wp2_with fail
      refine (cA _).mono ?_
      rintro e w' ⟨rfl, rfl⟩
      go_wp2_with fail
      refine (cB _).mono ?_
      rintro e w' ⟨rfl, rfl⟩
      go_wp2
      go_quiet ((first | (go_at_call 77; with_reducible exact Calls.quiet_of_same (cA _)) | (go_at_call 77; with_reducible exact Calls.quiet_of_same (cB _))))
      go_wp2
      go_ret2
      exact ⟨by rw [HT2.out]; show Ending.returned (.tuple #[.int .u8 (16 * (x : Int) + y), .int .i64 4]) = .returned (.tuple #[.int .u8 ((16 * x + y : Nat) : Int), .int .i64 ((4 : Nat) : Int)]); simp, (Up.refl _).drewN _⟩
    · have HT2 : Hid (chr (by_ s) = (0, 0)) := by show _ = _; rw [HT.out, if_neg (by omega)]
      simp only [hx, hy, if_true, if_false] at cA cB
      have n1 : decide ((0 : Int) ≤ x) = true := decide_eq_true (by omega)
      go_enter Tryd.func58, Tryd.ntmps58
      go_wp2_with fail
      refine (cA _).mono ?_
      rintro e w' ⟨rfl, rfl⟩
      go_wp2_with fail
      refine (cB _).mono ?_
      rintro e w' ⟨rfl, rfl⟩
      go_wp2
      go_ret2
      exact ⟨by rw [HT2.out]; rfl, Up.refl _⟩
  · have HT2 : Hid (chr (by_ s) = (0, 0)) := by show _ = _; rw [HT.out, if_neg (by omega)]
    simp only [hx, if_false] at cA
    go_enter Tryd.func58, Tryd.ntmps58
    go_wp2_with fail
    refine (cA _).mono ?_
    rintro e w' ⟨rfl, rfl⟩
    go_wp2
    go_ret2
    exact ⟨by rw [HT2.out]; rfl, Up.refl _⟩
set_option maxRecDepth 100000 in
set_option maxHeartbeats 2000000 in
theorem rchar_any (s : ByteArray) (w : World) (hs : s.size ≤ 100000) : Calls Tryd.prog 58 #[.string s] w (RetChr w (chr (by_ s))) := by
  match hl : by_ s with
  | [] =>
    have h0 : s.size = 0 := by rw [← by_len, hl]; rfl
    obtain ⟨e1, e2⟩ := toList_nil s h0
    have HT : Hid (chr ([] : List Nat) = (0, 0)) := rfl
    clear hl h0
    go_enter Tryd.func58, Tryd.ntmps58
    go_wp2
    go_ret2
    exact ⟨by rw [HT.out]; rfl, Up.refl _⟩
  | c :: r =>
    have h0 : 0 < s.size := by rw [← by_len, hl]; simp
    have hc : c < 256 := by_lt s c (by rw [hl]; simp)
    have a0 : ((s[0]'h0).toNat : Int) = (c : Int) := by rw [u8_at s 0 h0, hl]; rfl
    obtain ⟨e1, e2⟩ := toList_ne s h0
    by_cases hb : c < 32 ∨ 126 < c ∨ c = 34
    · have HT : Hid (chr (c :: r) = (0, 0)) := by
        show _ = _
        unfold chr
        simp only []
        rw [if_neg (by omega), if_neg]
        unfold isP
        simp
        omega
      have e : decide ((c : Int) < 32) = true ∨ (decide ((c : Int) < 32) = false ∧ decide ((126 : Int) < c) = true) ∨ (decide ((c : Int) < 32) = false ∧ decide ((126 : Int) < c) = false ∧ ((c : Int) == 34) = true) := by
        by_cases h1 : c < 32
        · exact .inl (decide_eq_true (by omega))
        · by_cases h2 : 126 < c
          · exact .inr (.inl ⟨decide_eq_false (by omega), decide_eq_true (by omega)⟩)
          · exact .inr (.inr ⟨decide_eq_false (by omega), decide_eq_false (by omega), by rw [show c = 34 by omega]; rfl⟩)
      clear hl hb
      rcases e with x1 | ⟨x1, x2⟩ | ⟨x1, x2, x3⟩
      all_goals
        go_enter Tryd.func58, Tryd.ntmps58
        go_wp2
        go_ret2
        exact ⟨by rw [HT.out]; rfl, Up.refl _⟩
    · have x1 : decide ((c : Int) < 32) = false := decide_eq_false (by omega)
      have x2 : decide ((126 : Int) < c) = false := decide_eq_false (by omega)
      have x3 : ((c : Int) == 34) = false := by rw [beq_eq_false_iff_ne]; omega
      by_cases h92 : c = 92
      · subst h92
        match r, hl with
        | 120 :: a :: b :: r, hl =>
          have h := rchar_hex s w hs a b r hl
          rw [hl] at h
          exact h
        | [], hl =>
          have a0 : ((s[0]'h0).toNat : Int) = 92 := a0
          have n2 : decide ((s.size : Int) < 2) = true := decide_eq_true (by rw [← by_len, hl]; simp)
          have HT : Hid (chr [92] = (0, 0)) := rfl
          clear hl hb hc x1 x2 x3
          go_enter Tryd.func58, Tryd.ntmps58
          go_wp2
          go_ret2
          exact ⟨by rw [HT.out]; rfl, Up.refl _⟩
        | d :: r, hl =>
          have hd : d < 256 := by_lt s d (by rw [hl]; simp)
          have h1 : 1 < s.size := by rw [← by_len, hl]; simp
          have a0 : ((s[0]'h0).toNat : Int) = 92 := a0
          have a1 : ((s[1]'h1).toNat : Int) = (d : Int) := by rw [u8_at s 1 h1, hl]; rfl
          have n2 : decide ((s.size : Int) < 2) = false := decide_eq_false (by omega)
          clear x1 x2 x3 hb hc
          by_cases d34 : d = 34
          · subst d34
            have a1 : ((s[1]'h1).toNat : Int) = 34 := a1
            have HT : Hid (chr (92 :: 34 :: r) = (34, 2)) := rfl
            clear hl
            go_enter Tryd.func58, Tryd.ntmps58
            go_wp2
            go_ret2
            exact ⟨by rw [HT.out]; rfl, Up.refl _⟩
          · by_cases d92 : d = 92
            · subst d92
              have a1 : ((s[1]'h1).toNat : Int) = 92 := a1
              have HT : Hid (chr (92 :: 92 :: r) = (92, 2)) := rfl
              clear hl d34
              go_enter Tryd.func58, Tryd.ntmps58
              go_wp2
              go_ret2
              exact ⟨by rw [HT.out]; rfl, Up.refl _⟩
            · by_cases d110 : d = 110
              · subst d110
                have a1 : ((s[1]'h1).toNat : Int) = 110 := a1
                have HT : Hid (chr (92 :: 110 :: r) = (10, 2)) := rfl
                clear hl d34 d92
                go_enter Tryd.func58, Tryd.ntmps58
                go_wp2
                go_ret2
                exact ⟨by rw [HT.out]; rfl, Up.refl _⟩
              · have y1 : ((d : Int) == 34) = false := by rw [beq_eq_false_iff_ne]; omega
                have y2 : ((d : Int) == 92) = false := by rw [beq_eq_false_iff_ne]; omega
                have y3 : ((d : Int) == 110) = false := by rw [beq_eq_false_iff_ne]; omega
                by_cases d120 : d = 120
                · subst d120
                  have a1 : ((s[1]'h1).toNat : Int) = 120 := a1
                  match r, hl with
                  | a :: b :: r, hl =>
                    have h := rchar_hex s w hs a b r hl
                    rw [hl] at h
                    exact h
                  | [a], hl =>
                    have n4 : decide ((4 : Int) ≤ s.size) = false := decide_eq_false (by rw [← by_len, hl]; simp)
                    have HT : Hid (chr [92, 120, a] = (0, 0)) := rfl
                    clear hl d34 d92 d110 y1 y2 y3 hd
                    go_enter Tryd.func58, Tryd.ntmps58
                    go_wp2
                    go_ret2
                    exact ⟨by rw [HT.out]; rfl, Up.refl _⟩
                  | [], hl =>
                    have n4 : decide ((4 : Int) ≤ s.size) = false := decide_eq_false (by rw [← by_len, hl]; simp)
                    have HT : Hid (chr [92, 120] = (0, 0)) := rfl
                    clear hl d34 d92 d110 y1 y2 y3 hd
                    go_enter Tryd.func58, Tryd.ntmps58
                    go_wp2
                    go_ret2
                    exact ⟨by rw [HT.out]; rfl, Up.refl _⟩
                · have y4 : ((d : Int) == 120) = false := by rw [beq_eq_false_iff_ne]; omega
                  have HT : Hid (chr (92 :: d :: r) = (0, 0)) := by
                    show _ = _
                    unfold chr
                    simp only []
                    rw [if_pos trivial, if_neg (by omega), if_neg d110, if_neg d120]
                  clear hl d34 d92 d110 d120
                  go_enter Tryd.func58, Tryd.ntmps58
                  go_wp2
                  go_ret2
                  exact ⟨by rw [HT.out]; rfl, Up.refl _⟩
      · have HT : Hid (chr (c :: r) = (c, 1)) := by
          show _ = _
          unfold chr
          simp only []
          rw [if_neg h92, if_pos]
          unfold isP
          simp
          omega
        have x4 : ((c : Int) == 92) = false := by rw [beq_eq_false_iff_ne]; omega
        have x5 : ((c : Int) != 92) = true := by unfold bne; rw [x4]; rfl
        clear hl h92 hb
        go_enter Tryd.func58, Tryd.ntmps58
        go_wp2
        go_ret2
        exact ⟨by rw [HT.out]; rfl, Up.refl _⟩
end Go.Proofs.YtnhncakkbfjdjaaDoor
