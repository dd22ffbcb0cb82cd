/- Walks: what reads strings and integers. -/
import Derived.Test.YtcgoogdjgocjbaaB
import Derived.Test.YtcgoogdjgocjbaaD
namespace Go.Proofs.Ytcgoogdjgocjbaa
open Go.RowKit

theorem gt_out (s : ByteArray) : ((gt s).2.2 = 0 → (gt s).1 < 18446744073709551616 ∧ 0 < (gt s).2.1 ∧ (gt s).2.1 ≤ s.size ∧ (gt s).2.1 ≤ 10) ∧ ((gt s).2.2 ≠ 0 → (gt s).1 = 0 ∧ (gt s).2.1 = 0 ∧ (gt s).2.2 < 10) := by
  have h := rd_out (by_ s) 0 0 (by_lt s) (by omega) (fun _ => by decide)
  rw [by_len, Nat.zero_add] at h
  exact h
/-- What GetString returns. -/
def gs (s : ByteArray) : ByteArray × Nat × Nat :=
  if (gt s).2.2 ≠ 0 then (⟨#[]⟩, 0, (gt s).2.2) else if s.size - (gt s).2.1 < (gt s).1 then (⟨#[]⟩, 0, 9) else (s.extract (gt s).2.1 ((gt s).2.1 + (gt s).1), (gt s).2.1 + (gt s).1, 0)
def RetGs (w : World) (s : ByteArray) (e : Ending) (w' : World) : Prop := e = .returned (.tuple #[.string (gs s).1, .int .i64 ((gs s).2.1 : Nat), .int .i64 ((gs s).2.2 : Nat)]) ∧ w = w'
theorem gs_out (s : ByteArray) : ((gs s).2.2 = 0 → 0 < (gs s).2.1 ∧ (gs s).2.1 ≤ s.size ∧ (gs s).1.size < (gs s).2.1) ∧ ((gs s).2.2 ≠ 0 → (gs s).1 = ⟨#[]⟩ ∧ (gs s).2.1 = 0 ∧ (gs s).2.2 < 10) := by
  have h := gt_out s
  unfold gs
  split
  · rename_i h1
    exact ⟨fun h2 => absurd h2 h1, fun _ => ⟨rfl, rfl, (h.2 h1).2.2⟩⟩
  · rename_i h1
    have h3 := h.1 (by omega)
    split
    · exact ⟨fun h2 => (by cases h2), fun _ => ⟨rfl, rfl, by decide⟩⟩
    · refine ⟨fun _ => ⟨by show 0 < _ + _; omega, by show _ + _ ≤ _; omega, ?_⟩, fun h2 => absurd rfl h2⟩
      show (s.extract _ _).size < _ + _
      rw [ByteArray.size_extract]; omega
set_option maxRecDepth 1000000 in
set_option maxHeartbeats 2000000 in
theorem gstr_any (s : ByteArray) (w : World) (hs : s.size ≤ 1000000) : Calls Try.prog 24 #[.string s] w (RetGs w s) := by
  obtain ⟨n, hn⟩ : ∃ n, n = (gt s).1 := ⟨_, rfl⟩
  obtain ⟨k, hk⟩ : ∃ k, k = (gt s).2.1 := ⟨_, rfl⟩
  obtain ⟨x, hx⟩ : ∃ x, x = (gt s).2.2 := ⟨_, rfl⟩
  have ho := gt_out s
  have hG : gs s = if x ≠ 0 then (⟨#[]⟩, 0, x) else if s.size - k < n then (⟨#[]⟩, 0, 9) else (s.extract k (k + n), k + n, 0) := by unfold gs; rw [← hn, ← hk, ← hx]
  have hget : Calls Try.prog 14 #[.string s] w fun e w' => e = .returned (.tuple #[.int .u64 (n : Nat), .int .i64 (k : Nat), .int .i64 (x : Nat)]) ∧ w = w' := by rw [hn, hk, hx]; exact get_any s w hs
  rw [← hn, ← hk, ← hx] at ho
  clear hn hk hx
  by_cases h0 : x = 0
  · subst h0
    obtain ⟨h1, h2, h3, h4⟩ := ho.1 rfl
    clear ho
    by_cases hlt : s.size - k < n
    · have HG : Hid (gs s = (⟨#[]⟩, 0, 9)) := by show gs s = _; rw [hG, if_neg (by omega), if_pos hlt]
      clear hG
      go_enter Try.func24, Try.ntmps24
      go_wp2_with (go_at_call 14; refine hget.mono ?_; rintro e w' ⟨rfl, rfl⟩)
      go_ret3
      exact ⟨by rw [HG.out]; rfl, rfl⟩
    · have HG : Hid (gs s = (s.extract k (k + n), k + n, 0)) := by show gs s = _; rw [hG, if_neg (by omega), if_neg hlt]
      clear hG
      have hn : n ≤ 1000000 := by omega
      go_enter Try.func24, Try.ntmps24
      go_wp2_with (go_at_call 14; refine hget.mono ?_; rintro e w' ⟨rfl, rfl⟩)
      go_ret3
      exact ⟨by rw [HG.out]; rfl, rfl⟩
  · have HG : Hid (gs s = (⟨#[]⟩, 0, x)) := by show gs s = _; rw [hG, if_pos h0]
    have hx : ((x : Int) != 0) = true := by rw [bne_iff_ne]; omega
    clear hG ho
    go_enter Try.func24, Try.ntmps24
    go_wp2_with (go_at_call 14; refine hget.mono ?_; rintro e w' ⟨rfl, rfl⟩)
    go_ret3
    exact ⟨by rw [HG.out]; rfl, rfl⟩
set_option maxRecDepth 1000000 in
set_option maxHeartbeats 2000000 in
theorem rgstr_any (s : ByteArray) (w : World) (hs : s.size ≤ 1000000) : Calls Try.prog 26 #[.string s] w (RetGs w s) := by
  obtain ⟨n, hn⟩ : ∃ n, n = (gt s).1 := ⟨_, rfl⟩
  obtain ⟨k, hk⟩ : ∃ k, k = (gt s).2.1 := ⟨_, rfl⟩
  obtain ⟨x, hx⟩ : ∃ x, x = (gt s).2.2 := ⟨_, rfl⟩
  have ho := gt_out s
  have hG : gs s = if x ≠ 0 then (⟨#[]⟩, 0, x) else if s.size - k < n then (⟨#[]⟩, 0, 9) else (s.extract k (k + n), k + n, 0) := by unfold gs; rw [← hn, ← hk, ← hx]
  have hget : Calls Try.prog 16 #[.string s] w fun e w' => e = .returned (.tuple #[.int .u64 (n : Nat), .int .i64 (k : Nat), .int .i64 (x : Nat)]) ∧ w = w' := by rw [hn, hk, hx]; exact rget_any s w hs
  rw [← hn, ← hk, ← hx] at ho
  clear hn hk hx
  by_cases h0 : x = 0
  · subst h0
    obtain ⟨h1, h2, h3, h4⟩ := ho.1 rfl
    clear ho
    by_cases hlt : s.size - k < n
    · have HG : Hid (gs s = (⟨#[]⟩, 0, 9)) := by show gs s = _; rw [hG, if_neg (by omega), if_pos hlt]
      clear hG
      go_enter Try.func26, Try.ntmps26
      go_wp2_with (go_at_call 16; refine hget.mono ?_; rintro e w' ⟨rfl, rfl⟩)
      go_ret3
      exact ⟨by rw [HG.out]; rfl, rfl⟩
    · have HG : Hid (gs s = (s.extract k (k + n), k + n, 0)) := by show gs s = _; rw [hG, if_neg (by omega), if_neg hlt]
      clear hG
      have hn : n ≤ 1000000 := by omega
      go_enter Try.func26, Try.ntmps26
      go_wp2_with (go_at_call 16; refine hget.mono ?_; rintro e w' ⟨rfl, rfl⟩)
      go_ret3
      exact ⟨by rw [HG.out]; rfl, rfl⟩
  · have HG : Hid (gs s = (⟨#[]⟩, 0, x)) := by show gs s = _; rw [hG, if_pos h0]
    have hx : ((x : Int) != 0) = true := by rw [bne_iff_ne]; omega
    clear hG ho
    go_enter Try.func26, Try.ntmps26
    go_wp2_with (go_at_call 16; refine hget.mono ?_; rintro e w' ⟨rfl, rfl⟩)
    go_ret3
    exact ⟨by rw [HG.out]; rfl, rfl⟩

theorem uz_bits {n : Nat} (hn : n < 18446744073709551616) : bits .xor .i64 ((n : Int) / 2) (wrap64 (-wrap64 (bits .and .u64 (n : Int) 1))) = uz n := by
  have e1 : bits .and .u64 (n : Int) 1 = (n : Int) % 2 := Lib.u64_and1 n (by omega) (by omega)
  have hx : n / 2 < 9223372036854775808 := by omega
  rw [e1, show (n : Int) / 2 = ((n / 2 : Nat) : Int) by omega]
  unfold uz
  by_cases h : n % 2 = 0
  · rw [if_pos h, show (n : Int) % 2 = 0 by omega, show wrap64 (-wrap64 0) = 0 by kernel_rfl]
    show IntKind.i64.wrap ((BitVec.ofInt 64 ((n / 2 : Nat) : Int) ^^^ 0#64).toNat : Int) = _
    rw [BitVec.xor_zero, BitVec.ofInt_natCast, BitVec.toNat_ofNat, Nat.mod_eq_of_lt (by omega), IntKind.wrap_i64]
    omega
  · rw [if_neg h, show (n : Int) % 2 = 1 by omega, show wrap64 (-wrap64 1) = -1 by kernel_rfl]
    show IntKind.i64.wrap ((BitVec.ofInt 64 ((n / 2 : Nat) : Int) ^^^ BitVec.ofInt 64 (-1)).toNat : Int) = _
    rw [BitVec.xor_comm]
    exact Lib.i64_not _ hx
/-- What getInt returns. -/
def RetGi (w : World) (s : ByteArray) (e : Ending) (w' : World) : Prop := e = .returned (.tuple #[.int .i64 (uz (gt s).1), .int .i64 ((gt s).2.1 : Nat), .int .i64 ((gt s).2.2 : Nat)]) ∧ w = w'
set_option maxRecDepth 1000000 in
set_option maxHeartbeats 2000000 in
theorem gint_any (s : ByteArray) (w : World) (hs : s.size ≤ 1000000) : Calls Try.prog 51 #[.string s] w (RetGi w s) := by
  have ho := gt_out s
  have hn : (gt s).1 < 18446744073709551616 := by
    by_cases h : (gt s).2.2 = 0
    · exact (ho.1 h).1
    · rw [(ho.2 h).1]; decide
  unfold RetGi
  have hget := get_any s w hs
  unfold RetGet at hget
  generalize (gt s).1 = n at hn hget
  generalize (gt s).2.1 = k at hget
  generalize (gt s).2.2 = x at hget
  clear ho
  go_enter Try.func51, Try.ntmps51
  go_wp2_with (go_at_call 14; refine hget.mono ?_; rintro e w' ⟨rfl, rfl⟩)
  go_ret3
  exact ⟨by rw [← uz_bits hn]; rfl, rfl⟩
end Go.Proofs.Ytcgoogdjgocjbaa
