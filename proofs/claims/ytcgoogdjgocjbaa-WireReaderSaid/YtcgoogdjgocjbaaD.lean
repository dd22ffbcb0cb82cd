/- Walks: the reference's Get. -/
import Derived.Test.YtcgoogdjgocjbaaC
namespace Go.Proofs.Ytcgoogdjgocjbaa
open Go.RowKit

theorem wrap_rng (x : Int) : 0 ≤ IntKind.u64.wrap x ∧ IntKind.u64.wrap x < 18446744073709551616 := by rw [IntKind.wrap_u64]; omega
theorem rget_next {s : ByteArray} {k n b u : Nat} (hb : b < 256) (h : 128 ≤ b) (Hu : Hid (u = 128 ^ k)) (Hn : Hid (n < u)) (HS : Hid (RdStep s k n b)) (HR : Hid (rd ((by_ s).drop k) k n = gt s)) :
    Hid (k + 1 ≤ 9 → IntKind.u64.wrap ((u : Int) * 128) = ((128 ^ (k + 1) : Nat) : Int)) ∧
    Hid (∃ m : Nat, (k + 1 ≤ 9 → IntKind.u64.wrap ((n : Int) + IntKind.u64.wrap (((b : Int) - 128) * (u : Int))) = m ∧ m < 128 ^ (k + 1)) ∧ rd ((by_ s).drop (k + 1)) (k + 1) m = gt s) := by
  have hu := Hu.out
  have hn := Hn.out
  have hp : k + 1 ≤ 9 → 128 * u ≤ 9223372036854775808 := fun h8 => by
    rw [← pow9, hu, ← Nat.pow_succ']; exact Nat.pow_le_pow_right (by decide) h8
  refine ⟨fun h8 => ?_, n + b % 128 * 128 ^ k, fun h8 => ?_, ?_⟩
  · rw [Nat.pow_succ, ← hu, IntKind.wrap_u64]
    have := hp h8
    push_cast; omega
  · have h1 := hp h8
    have h2 : b % 128 * u ≤ 127 * u := Nat.mul_le_mul_right _ (by omega)
    have e1 : ((b : Int) - 128) * (u : Int) = ((b % 128 * u : Nat) : Int) := by
      rw [show (b : Int) - 128 = ((b % 128 : Nat) : Int) by omega]; push_cast; rfl
    rw [Nat.pow_succ, ← hu, e1, show IntKind.u64.wrap ((b % 128 * u : Nat) : Int) = ((b % 128 * u : Nat) : Int) from wraps_u64 _ (by omega) (by omega), wraps_u64 _ (by omega) (by omega)]
    exact ⟨by push_cast; rfl, by omega⟩
  · rw [← HS.out.1 h, HR.out]
theorem rget_val {k n b u : Nat} (hb : b < 128) (hk : k ≤ 8 ∨ b ≤ 1) (h9 : k < 10) (Hu : Hid (u = 128 ^ k)) (Hn : Hid (n < u)) : IntKind.u64.wrap ((n : Int) + IntKind.u64.wrap ((b : Int) * (u : Int))) = ((n + b % 128 * 128 ^ k : Nat) : Int) := by
  have hu := Hu.out
  have hn := Hn.out
  have h1 : b * u + u ≤ 18446744073709551616 := by
    rcases hk with h | h
    · have h8 : (128 : Nat) ^ k ≤ 128 ^ 8 := Nat.pow_le_pow_right (by decide) h
      have h3 : 128 * 128 ^ 8 ≤ 18446744073709551616 := by decide
      have h4 : (b + 1) * u ≤ 128 * 128 ^ 8 := Nat.mul_le_mul (by omega) (by omega)
      rw [Nat.add_mul] at h4; omega
    · have h8 : (128 : Nat) ^ k ≤ 128 ^ 9 := Nat.pow_le_pow_right (by decide) (by omega)
      rw [pow9] at h8
      have h4 : (b + 1) * u ≤ 2 * 9223372036854775808 := Nat.mul_le_mul (by omega) (by omega)
      rw [Nat.add_mul] at h4; omega
  rw [Nat.mod_eq_of_lt hb, ← hu, show (b : Int) * (u : Int) = ((b * u : Nat) : Int) by push_cast; rfl, show IntKind.u64.wrap ((b * u : Nat) : Int) = ((b * u : Nat) : Int) from wraps_u64 _ (by omega) (by omega), wraps_u64 _ (by omega) (by omega)]
  push_cast; rfl
set_option maxRecDepth 1000000 in
set_option maxHeartbeats 2000000 in
theorem rget_any (s : ByteArray) (w : World) (hs : s.size ≤ 1000000) : Calls Try.prog 16 #[.string s] w (RetGet w s) := by
  have HB := hide (by_len s)
  go_enter Try.func16, Try.ntmps16
  go_wp2
  go_loop [5, 6, 7] (fun x y i => ∃ (k : Nat) (X U : Int), i = .int .i64 k ∧ k ≤ s.size ∧ k ≤ 10 ∧ x = .int .u64 X ∧ y = .int .u64 U ∧ (0 ≤ X ∧ X < 18446744073709551616) ∧ Hid (k ≤ 9 → U = ((128 ^ k : Nat) : Int)) ∧ Hid (∃ n : Nat, (k ≤ 9 → X = n ∧ n < 128 ^ k) ∧ rd ((by_ s).drop k) k n = gt s)) (fun _ _ i => (10 - (intOf i).toNat))
  case atStart => exact ⟨0, 0, 1, rfl, by omega, by omega, rfl, rfl, by decide, fun _ => by decide, 0, fun _ => ⟨rfl, by decide⟩, rfl⟩
  case round =>
    obtain ⟨k, X, U, rfl, hk, hk10, rfl, rfl, hX, HU, HR⟩ := hrel
    by_cases hlt : k < s.size ∧ k < 10
    · obtain ⟨h1, h2⟩ := hlt
      obtain ⟨n, hn, hr⟩ := HR.out
      obtain ⟨rfl, hnl⟩ := hn (by omega)
      have HR' := hide hr
      clear HR hr hn
      obtain ⟨u, hu⟩ : ∃ u : Nat, u = 128 ^ k := ⟨_, rfl⟩
      obtain rfl : U = (u : Int) := by rw [hu]; exact HU.out (by omega)
      have Hu := hide hu
      have hu63 : u ≤ 9223372036854775808 := by rw [hu, ← pow9]; exact Nat.pow_le_pow_right (by decide) (by omega)
      have Hn : Hid (n < u) := by rw [hu]; exact hnl
      clear hu hnl HU
      obtain ⟨b, hb⟩ : ∃ b, b = (by_ s).getD k 0 := ⟨_, rfl⟩
      have Hb := hide hb
      clear hb
      have hix : ∀ W : World, (Instr.index 9 (.string s) (.int .i64 (k : Int))).run Try.prog W = .ok (.int .u8 (b : Int)) W := fun W => ix_str s k b h1 Hb W
      have hb256 : b < 256 := by rw [Hb.out]; exact byte_lt s k
      have HS : Hid (RdStep s k n b) := rd_all h1 (by omega) Hb.out HB.out
      by_cases hb : 128 ≤ b
      · have HX := rget_next hb256 hb Hu Hn HS HR'
        go_wp2
        go_round
        case rel => exact ⟨k + 1, _, _, by go_num, by omega, by omega, rfl, rfl, wrap_rng _, HX.1, HX.2⟩
        case measure => simp [intOf]; omega
      · by_cases he : le_ b k = 0
        · have HX : Hid (gt s = (n + b % 128 * 128 ^ k, k + 1, 0)) := HR'.out.symm.trans (HS.out.2.2 (by omega) he).1
          have hkb := (HS.out.2.2 (by omega) he).2
          have hval := rget_val (b := b) (k := k) (by omega) hkb h2 Hu Hn
          have hn9 : ¬ (k = 9 ∧ 1 < b) ∧ ¬ (b = 0 ∧ 0 < k) := by
            unfold le_ at he
            split at he
            · cases he
            · split at he
              · cases he
              · exact ⟨by assumption, by assumption⟩
          clear he
          obtain ⟨m, hm⟩ : ∃ m, m = n + b % 128 * 128 ^ k := ⟨_, rfl⟩
          rw [← hm] at hval HX
          clear hm
          have hq9 : k = 9 → b ≤ 1 := fun h => by omega
          have hq0 : b = 0 → k = 0 := fun h => by omega
          clear hn9 hkb
          by_cases h9 : k = 9
          · have h9' : ((k : Int) == 9) = true := by rw [beq_iff_eq]; omega
            have hb1 : b ≤ 1 := hq9 h9
            have hb0 : ((b : Int) == 0) = false := by rw [beq_eq_false_iff_ne]; omega
            clear h9 hq9 hq0
            go_wp2
            go_ret3
            exact ⟨by rw [HX.out]; rfl, rfl⟩
          · have h9' : ((k : Int) == 9) = false := by rw [beq_eq_false_iff_ne]; omega
            clear h9 hq9
            by_cases h0 : b = 0
            · have hb0 : ((b : Int) == 0) = true := by rw [beq_iff_eq]; omega
              have hk0 : ¬ 0 < k := by have := hq0 h0; omega
              clear h0 hq0
              go_wp2
              go_ret3
              exact ⟨by rw [HX.out]; rfl, rfl⟩
            · have hb0 : ((b : Int) == 0) = false := by rw [beq_eq_false_iff_ne]; omega
              clear h0 hq0
              go_wp2
              go_ret3
              exact ⟨by rw [HX.out]; rfl, rfl⟩
        · have HX := get_err (by omega) he HS HR'
          by_cases h9 : k = 9 ∧ 1 < b
          · have he' : Hid (le_ b k = 7) := by show le_ b k = 7; unfold le_; rw [if_pos h9]
            have h9' : ((k : Int) == 9) = true := by rw [beq_iff_eq]; omega
            have hb1 : 1 < b := h9.2
            clear h9 he
            go_wp2
            go_ret3
            exact ⟨by rw [HX.out, he'.out]; rfl, rfl⟩
          · have h0 : b = 0 ∧ 0 < k := by
              unfold le_ at he
              rw [if_neg h9] at he
              split at he
              · assumption
              · exact absurd rfl he
            have he' : Hid (le_ b k = 2) := by show le_ b k = 2; unfold le_; rw [if_neg h9, if_pos h0]
            have hb0 : ((b : Int) == 0) = true := by rw [beq_iff_eq]; omega
            have hb1 : b ≤ 1 := by omega
            have hk0 : 0 < k := h0.2
            clear h0 h9 he
            by_cases h9 : k = 9
            · have h9' : ((k : Int) == 9) = true := by rw [beq_iff_eq]; omega
              clear h9
              go_wp2
              go_ret3
              exact ⟨by rw [HX.out, he'.out]; rfl, rfl⟩
            · have h9' : ((k : Int) == 9) = false := by rw [beq_eq_false_iff_ne]; omega
              clear h9
              go_wp2
              go_ret3
              exact ⟨by rw [HX.out, he'.out]; rfl, rfl⟩
    · obtain ⟨n, hn, hr⟩ := HR.out
      clear hn
      by_cases h10 : s.size < 10
      · have hE : Hid (gt s = (0, 0, 9)) := hr.symm.trans (rd_short (by rw [HB.out]; omega) (by omega))
        clear hr HR
        have hge : ¬ k < s.size := by omega
        clear hlt
        go_wp2
        go_ret3
        exact ⟨by rw [hE.out]; rfl, rfl⟩
      · obtain rfl : k = 10 := by omega
        have hE : Hid (gt s = (0, 0, 7)) := hr.symm.trans (rd_ten _ _)
        clear hr HR hlt
        go_wp2
        all_goals (go_ret3; exact ⟨by rw [hE.out]; rfl, rfl⟩)
end Go.Proofs.Ytcgoogdjgocjbaa
