/- Walks: trim, digits, compare. -/
import Derived.Test.YtijcijdgpeolhaaDoorBase
namespace Go.Proofs.YtijcijdgpeolhaaDoor
open Go.RowKit

theorem ret_int {k : IntKind} {a b : Int} (h : a = b) : Ending.returned (.int k a) = .returned (.int k b) := by rw [h]
theorem ret_bool {a b : Bool} (h : a = b) : Ending.returned (.bool a) = .returned (.bool b) := by rw [h]

set_option maxHeartbeats 400000 in
theorem wide_any (x : Nat) (w : World) (_h : x < 4294967296) : Calls Tryd.prog 38 #[.int .u32 x] w fun e w' => e = .returned (.bool (decide ((1000000000 : Int) ≤ (x : Int)))) ∧ w = w' := by
  go_enter Tryd.func38, Tryd.ntmps38
  go_wp2
  go_ret
  exact ⟨rfl, rfl⟩

set_option maxHeartbeats 400000 in
theorem trim_any (A : Option Addr) (c : Nat) (l : List Nat) (w : World) (h : Lim w A l) (n : Nat) (Hn : Hid (n = l.length)) (hl : n ≤ 1000000) (hc : n ≤ c) :
    Calls Tryd.prog 72 #[.slice A n c] w fun e w' => e = .returned (.slice A (keep l n) c) ∧ w = w' := by
  go_enter Tryd.func72, Tryd.ntmps72
  go_wp2
  go_loop [3] (fun i => ∃ k : Nat, k ≤ n ∧ i = .int .i64 k ∧ keep l k = keep l n) (fun i => (intOf i).toNat)
  case atStart => exact ⟨n, Nat.le_refl _, rfl, rfl⟩
  case round =>
    obtain ⟨k, hk, rfl, hkeep⟩ := hrel
    have HK := Lib.hid hkeep
    clear hkeep
    by_cases hpos : 0 < k
    · obtain ⟨k, rfl⟩ : ∃ m, k = m + 1 := ⟨k - 1, by omega⟩
      obtain ⟨ad, rfl, hb, hcell⟩ := h.at_ (k := k) (by have := Hn.out; omega)
      by_cases hz : l.getD k 0 = 0
      · have hstep : Hid (keep l (k + 1) = keep l k) := by show keep l (k + 1) = keep l k; rw [keep, if_pos hz]
        have hz0 : ((l[k]?.getD 0 : Nat) : Int) == 0 := by have : l[k]?.getD 0 = 0 := hz; simp [this]
        clear hz
        go_wp2
        go_round
        case rel => exact ⟨k, by omega, by go_num, hstep.out.symm.trans HK.out⟩
        case measure => simp [intOf]
      · have hstep : Hid (keep l (k + 1) = k + 1) := by show keep l (k + 1) = k + 1; rw [keep, if_neg hz]
        have hz0 : (((l[k]?.getD 0 : Nat) : Int) == 0) = false := by have : l[k]?.getD 0 ≠ 0 := hz; rw [beq_eq_false_iff_ne]; omega
        clear hz
        go_wp2
        go_ret
        refine ⟨?_, rfl⟩
        rw [← HK.out, hstep.out]; rfl
    · obtain rfl : k = 0 := by omega
      go_wp2
      go_ret
      refine ⟨?_, rfl⟩
      rw [← HK.out]; rfl

set_option maxHeartbeats 400000 in
theorem digits_any (A : Option Addr) (c : Nat) (l : List Nat) (w : World) (h : Lim w A l) (hw : W32 l) (n : Nat) (Hn : Hid (n = l.length)) (hl : n ≤ 1000000) :
    Calls Tryd.prog 36 #[.slice A n c] w fun e w' => e = .returned (.int .i64 (digs l)) ∧ w = w' := by
  by_cases hz : n = 0
  · subst hz
    have hd : Hid (digs l = 0) := by show digs l = 0; unfold digs; rw [if_pos (by rw [← Hn.out])]
    go_enter Tryd.func36, Tryd.ntmps36
    go_wp2
    go_ret
    exact ⟨by rw [hd.out]; rfl, rfl⟩
  · obtain ⟨n, rfl⟩ : ∃ m, n = m + 1 := ⟨n - 1, by omega⟩
    obtain ⟨ad, rfl, hb, hcell⟩ := h.at_ (k := n) (by have := Hn.out; omega)
    have hx := W32.getD hw n
    have hd : Hid (digs l = 9 * n + dgt (l.getD n 0)) := by
      show digs l = _; unfold digs; rw [if_neg (by rw [← Hn.out]; omega), ← Hn.out]; rfl
    obtain ⟨x, hxe⟩ : ∃ x, x = l.getD n 0 := ⟨_, rfl⟩
    rw [← hxe] at hcell hx hd
    have h10 : Hid (dgt x ≤ 10) := dgt_le.2 (Nat.lt_of_lt_of_le hx (by decide))
    clear hxe hw
    go_enter Tryd.func36, Tryd.ntmps36
    go_wp2
    go_loop [3, 4] (fun m t => ∃ y k : Nat, y ≤ 4294967295 ∧ t = .int .u32 y ∧ m = .int .i64 k ∧ k ≤ 9000010 ∧ k + dgt y = 9 * n + dgt x) (fun _ t => (intOf t).toNat)
    case atStart => exact ⟨x, 9 * n, by omega, rfl, by go_num, by omega, rfl⟩
    case round =>
      obtain ⟨y, k, hy, rfl, rfl, hk, hr⟩ := hrel
      have HR := Lib.hid hr
      clear hr
      by_cases hpos : 0 < y
      · have hs : Hid (dgt y = dgt (y / 10) + 1) := dgt_pos (by omega)
        have hk2 : k ≤ 9000009 := by have := HR.out; have := hs.out; have := h10.out; omega
        go_wp2
        go_round
        case rel => exact ⟨y / 10, k + 1, by omega, by go_num, by go_num, by omega, by have := HR.out; have := hs.out; omega⟩
        case measure => simp [intOf]; omega
      · obtain rfl : y = 0 := by omega
        go_wp2
        go_ret
        refine ⟨?_, rfl⟩
        have h1 := HR.out
        rw [dgt_zero] at h1
        rw [hd.out, ← h1]; rfl

set_option maxHeartbeats 400000 in
theorem cmpInt_any (x y : Nat) (w : World) (_hx : x ≤ 1000000000000) (_hy : y ≤ 1000000000000) : Calls Tryd.prog 52 #[.int .i64 x, .int .i64 y] w fun e w' => e = .returned (.int .i64 (cmpN x y)) ∧ w = w' := by
  rcases Nat.lt_trichotomy x y with h | h | h
  · have hc := Lib.hid (cmpN_lt h)
    go_enter Tryd.func52, Tryd.ntmps52
    go_wp2
    go_ret
    exact ⟨by rw [hc.out]; rfl, rfl⟩
  · subst h
    have hc := Lib.hid (cmpN_self x)
    go_enter Tryd.func52, Tryd.ntmps52
    go_wp2
    go_ret
    exact ⟨by rw [hc.out]; rfl, rfl⟩
  · have hc := Lib.hid (cmpN_gt h)
    go_enter Tryd.func52, Tryd.ntmps52
    go_wp2
    go_ret
    exact ⟨by rw [hc.out]; rfl, rfl⟩
set_option maxHeartbeats 400000 in
theorem cmpU32_any (x y : Nat) (w : World) (_hx : x < 4294967296) (_hy : y < 4294967296) : Calls Tryd.prog 53 #[.int .u32 x, .int .u32 y] w fun e w' => e = .returned (.int .i64 (cmpN x y)) ∧ w = w' := by
  rcases Nat.lt_trichotomy x y with h | h | h
  · have hc := Lib.hid (cmpN_lt h)
    go_enter Tryd.func53, Tryd.ntmps53
    go_wp2
    go_ret
    exact ⟨by rw [hc.out]; rfl, rfl⟩
  · subst h
    have hc := Lib.hid (cmpN_self x)
    go_enter Tryd.func53, Tryd.ntmps53
    go_wp2
    go_ret
    exact ⟨by rw [hc.out]; rfl, rfl⟩
  · have hc := Lib.hid (cmpN_gt h)
    go_enter Tryd.func53, Tryd.ntmps53
    go_wp2
    go_ret
    exact ⟨by rw [hc.out]; rfl, rfl⟩

set_option maxHeartbeats 1000000 in
theorem compare_any (A B : Option Addr) (c d a b : Nat) (w : World) (hA : Lim w A (lim a)) (hB : Lim w B (lim b)) (n m : Nat) (Hn : Hid (n = (lim a).length)) (Hm : Hid (m = (lim b).length)) (hn : n ≤ 1000000) (hm : m ≤ 1000000) :
    Calls Tryd.prog 31 #[.slice A n c, .slice B m d] w fun e w' => e = .returned (.int .i64 (cmpN a b)) ∧ ∃ q, w' = w.drewN q := by
  by_cases hnm : n = m
  · subst hnm
    go_enter Tryd.func31, Tryd.ntmps31
    go_wp2
    go_loopw [5] (fun i wr => ∃ (j : Int) (k q : Nat), k ≤ n ∧ i = .int .i64 j ∧ j + 1 = k ∧ (lim a).drop k = (lim b).drop k ∧ wr = w.drewN q) (fun i _ => (intOf i + 1).toNat)
    case atStart => exact ⟨_, n, 0, by omega, rfl, by omega, by rw [List.drop_eq_nil_of_le (by rw [← Hn.out]; omega), List.drop_eq_nil_of_le (by rw [← Hm.out]; omega)], rfl⟩
    case round =>
      obtain ⟨j, k, q, hk, rfl, hj, hdrop, rfl⟩ := hrel
      have HD := Lib.hid hdrop
      clear hdrop
      by_cases hpos : 0 < k
      · obtain ⟨k, rfl⟩ : ∃ m, k = m + 1 := ⟨k - 1, by omega⟩
        obtain rfl : j = (k : Int) := by omega
        clear hj hpos
        obtain ⟨ad, rfl, hb, hcell⟩ := hA.at_ (k := k) (by have := Hn.out; omega)
        obtain ⟨bd, rfl, hb2, hcell2⟩ := hB.at_ (k := k) (by have := Hm.out; omega)
        have hx := W32.getD (dig_lim a).w32 k
        have hy := W32.getD (dig_lim b).w32 k
        have hak : k < (lim a).length := by rw [← Hn.out]; omega
        have hbk : k < (lim b).length := by rw [← Hm.out]; omega
        have HL : Hid ((lim a).getD k 0 < (lim b).getD k 0 → cmpN a b = -1) := fun hl => cmpN_lt (by have := val_lt_of (dig_lim a) hak hbk HD.out hl; rwa [val_lim, val_lim] at this)
        have HG : Hid ((lim b).getD k 0 < (lim a).getD k 0 → cmpN a b = 1) := fun hl => cmpN_gt (by have := val_lt_of (dig_lim b) hbk hak HD.out.symm hl; rwa [val_lim, val_lim] at this)
        have HE : Hid ((lim a).getD k 0 = (lim b).getD k 0 → (lim a).drop k = (lim b).drop k) := fun he => by
          have e : ∀ (l : List Nat), k < l.length → l.drop k = l.getD k 0 :: l.drop (k + 1) := fun l hl => by rw [List.drop_eq_getElem_cons hl]; simp [List.getD, hl]
          rw [e _ hak, e _ hbk, he, HD.out]
        clear hA hB hak hbk HD
        obtain ⟨x, hxe⟩ : ∃ x, x = (lim a).getD k 0 := ⟨_, rfl⟩
        obtain ⟨y, hye⟩ : ∃ y, y = (lim b).getD k 0 := ⟨_, rfl⟩
        rw [← hxe] at hcell hx HL HG HE
        rw [← hye] at hcell2 hy HL HG HE
        clear hxe hye
        by_cases hxy : x = y
        · subst hxy
          have hq : ((x : Int) != (x : Int)) = false := by simp
          have HE2 : Hid ((lim a).drop k = (lim b).drop k) := HE.out rfl
          clear HE HL HG
          go_wp2
          go_quiet (fail)
          go_wp2
          go_roundw
          case rel => exact ⟨_, k, _, by omega, rfl, by omega, HE2.out, rfl⟩
          case measure => simp [intOf]
        · have hq : ((x : Int) != (y : Int)) = true := by rw [bne_iff_ne]; omega
          have HC : Hid (cmpN a b = cmpN x y) := by
            show cmpN a b = cmpN x y
            rcases Nat.lt_or_gt_of_ne hxy with h | h
            · rw [HL.out h, cmpN_lt h]
            · rw [HG.out h, cmpN_gt h]
          go_wp2
          go_quiet (fail)
          go_wp2
          go_quiet ((go_at_call 53; exact quiet_add_left' (cmpU32_any x y _ hx hy)))
          go_wp2
          go_ret
          exact ⟨by rw [HC.out]; rfl, _, by rw [World.drewN_drewN, World.drewN_drewN]⟩
      · obtain rfl : k = 0 := by omega
        obtain rfl : j = -1 := by omega
        have HC : Hid (cmpN a b = 0) := by
          have h0 : lim a = lim b := HD.out
          show cmpN a b = 0
          rw [lim_inj h0, cmpN_self]
        go_wp2
        go_ret
        exact ⟨by rw [HC.out]; rfl, _, rfl⟩
  · have hq : ((n : Int) != (m : Int)) = true := by rw [bne_iff_ne]; omega
    have HC : Hid (cmpN a b = cmpN n m) := by
      show cmpN a b = cmpN n m
      have h1 := Hn.out
      have h2 := Hm.out
      rcases Nat.lt_or_gt_of_ne hnm with h | h
      · rw [cmpN_lt h, cmpN_lt (lim_lt_of_len (by omega))]
      · rw [cmpN_gt h, cmpN_gt (lim_lt_of_len (by omega))]
    go_enter Tryd.func31, Tryd.ntmps31
    go_wp2_with (go_at_call 52; refine (cmpInt_any n m _ (by omega) (by omega)).mono ?_; rintro e w' ⟨rfl, rfl⟩)
    go_ret
    exact ⟨by rw [HC.out]; rfl, 0, rfl⟩
end Go.Proofs.YtijcijdgpeolhaaDoor
