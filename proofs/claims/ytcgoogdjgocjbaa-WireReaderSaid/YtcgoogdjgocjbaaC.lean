/- Walks: what reads a varint. -/
import Derived.Test.YtcgoogdjgocjbaaA
namespace Go.Proofs.Ytcgoogdjgocjbaa
open Go.RowKit

/-- What Get returns. -/
def gt (s : ByteArray) : Nat × Nat × Nat := rd (by_ s) 0 0
def RetGet (w : World) (s : ByteArray) (e : Ending) (w' : World) : Prop := e = .returned (.tuple #[.int .u64 ((gt s).1 : Nat), .int .i64 ((gt s).2.1 : Nat), .int .i64 ((gt s).2.2 : Nat)]) ∧ w = w'
/-- A byte and where it stands, as its last error. -/
def le_ (b k : Nat) : Nat := if k = 9 ∧ 1 < b then 7 else if b = 0 ∧ 0 < k then 2 else 0
set_option maxRecDepth 1000000 in
set_option maxHeartbeats 1000000 in
theorem last_any (b k : Nat) (w : World) (hb : b < 256) (hk : k ≤ 9) : Calls Try.prog 44 #[.int .u8 b, .int .i64 k] w fun e w' => e = .returned (.int .i64 (le_ b k : Nat)) ∧ w = w' := by
  by_cases h9 : k = 9
  · subst h9
    by_cases h1 : 1 < b
    · have he : Hid (le_ b 9 = 7) := by show le_ b 9 = 7; unfold le_; rw [if_pos ⟨rfl, h1⟩]
      go_enter Try.func44, Try.ntmps44
      go_wp2
      go_ret
      exact ⟨by rw [he.out]; rfl, rfl⟩
    · by_cases h0 : b = 0
      · subst h0
        go_enter Try.func44, Try.ntmps44
        go_wp2
        go_ret
        exact ⟨rfl, rfl⟩
      · obtain rfl : b = 1 := by omega
        go_enter Try.func44, Try.ntmps44
        go_wp2
        go_ret
        exact ⟨rfl, rfl⟩
  · have hk9 : ((k : Int) == 9) = false := by rw [beq_eq_false_iff_ne]; omega
    by_cases h0 : b = 0
    · subst h0
      by_cases hk0 : 0 < k
      · have he : Hid (le_ 0 k = 2) := by show le_ 0 k = 2; unfold le_; rw [if_neg (by omega), if_pos ⟨rfl, hk0⟩]
        go_enter Try.func44, Try.ntmps44
        go_wp2
        go_ret
        exact ⟨by rw [he.out]; rfl, rfl⟩
      · obtain rfl : k = 0 := by omega
        go_enter Try.func44, Try.ntmps44
        go_wp2
        go_ret
        exact ⟨rfl, rfl⟩
    · have hb0 : ((b : Int) == 0) = false := by rw [beq_eq_false_iff_ne]; omega
      have he : Hid (le_ b k = 0) := by show le_ b k = 0; unfold le_; rw [if_neg (by omega), if_neg (by omega)]
      go_enter Try.func44, Try.ntmps44
      go_wp2
      go_ret
      exact ⟨by rw [he.out]; rfl, rfl⟩
theorem byte_lt (s : ByteArray) (k : Nat) : (by_ s).getD k 0 < 256 := by
  by_cases h : k < (by_ s).length
  · exact by_lt s _ (by rw [List.getD, List.getElem?_eq_getElem h]; exact List.getElem_mem h)
  · rw [List.getD, List.getElem?_eq_none (by omega)]; decide
theorem ix_str (s : ByteArray) (k b : Nat) (hk : k < s.size) (Hb : Hid (b = (by_ s).getD k 0)) (W : World) : (Instr.index 9 (.string s) (.int .i64 (k : Int))).run Try.prog W = .ok (.int .u8 (b : Int)) W := by
  rw [run_index_string W 9 s .i64 k Try.underlying9, dif_pos (by omega), Hb.out]
  simp only [Int.toNat_natCast]
  rw [by_get s k hk]
/-- All that a byte of a varint leads to. -/
def RdStep (s : ByteArray) (k n b : Nat) : Prop :=
  (128 ≤ b → rd ((by_ s).drop k) k n = rd ((by_ s).drop (k + 1)) (k + 1) (n + b % 128 * 128 ^ k)) ∧ (b < 128 → le_ b k ≠ 0 → rd ((by_ s).drop k) k n = (0, 0, le_ b k)) ∧
  (b < 128 → le_ b k = 0 → rd ((by_ s).drop k) k n = (n + b % 128 * 128 ^ k, k + 1, 0) ∧ (k ≤ 8 ∨ b ≤ 1))
theorem rd_all {s : ByteArray} {k n b : Nat} (hk : k < s.size) (h9 : k ≤ 9) (hb : b = (by_ s).getD k 0) (hl : (by_ s).length = s.size) : RdStep s k n b := by
  have hb256 : b < 256 := by rw [hb]; exact byte_lt s k
  refine ⟨fun h => ?_, fun h he => ?_, fun h he => ?_⟩
  · rw [rd_go (by omega) (by omega) hb h, show b - 128 = b % 128 by omega]
  · unfold le_ at he ⊢
    split at he
    · rename_i h1
      obtain ⟨rfl, h2⟩ := h1
      rw [if_pos ⟨rfl, h2⟩, rd_range (by omega) hb h h2]
    · rename_i h1
      split at he
      · rename_i h2
        obtain ⟨rfl, h3⟩ := h2
        rw [if_neg h1, if_pos ⟨rfl, h3⟩, rd_syntax (by omega) (by omega) hb.symm h3]
      · exact absurd rfl he
  · unfold le_ at he
    split at he
    · cases he
    · rename_i h1
      split at he
      · cases he
      · rename_i h2
        rw [rd_end (by omega) (by omega) hb h h1 h2, Nat.mod_eq_of_lt h]
        exact ⟨rfl, by omega⟩
theorem get_next {s : ByteArray} {k n b m : Nat} (hk : k ≤ 9) (hb : 128 ≤ b) (HN : Hid (k ≤ 9 → n < 128 ^ k)) (HM : Hid (k ≤ 8 ∨ b ≤ 1 → m = n + b % 128 * 128 ^ k)) (HS : Hid (RdStep s k n b)) (HR : Hid (rd ((by_ s).drop k) k n = gt s)) :
    Hid (k + 1 ≤ 9 → m < 128 ^ (k + 1)) ∧ Hid (rd ((by_ s).drop (k + 1)) (k + 1) m = gt s) := by
  refine ⟨fun h => ?_, ?_⟩
  · have h1 := HM.out (.inl (by omega))
    have h2 := HN.out (by omega)
    have h3 : b % 128 * 128 ^ k ≤ 127 * 128 ^ k := Nat.mul_le_mul_right _ (by omega)
    rw [Nat.pow_succ]; omega
  · show rd ((by_ s).drop (k + 1)) (k + 1) m = gt s
    rw [← HR.out, HS.out.1 hb]
    by_cases h : k ≤ 8
    · rw [HM.out (.inl h)]
    · obtain rfl : k = 9 := by omega
      rw [rd_ten, rd_ten]
theorem get_ok {s : ByteArray} {k n b m : Nat} (hb : b < 128) (he : le_ b k = 0) (HM : Hid (k ≤ 8 ∨ b ≤ 1 → m = n + b % 128 * 128 ^ k)) (HS : Hid (RdStep s k n b)) (HR : Hid (rd ((by_ s).drop k) k n = gt s)) : Hid (gt s = (m, k + 1, 0)) := by
  have h := HS.out.2.2 hb he
  show gt s = _
  rw [← HR.out, h.1, HM.out h.2]
theorem get_err {s : ByteArray} {k n b : Nat} (hb : b < 128) (he : le_ b k ≠ 0) (HS : Hid (RdStep s k n b)) (HR : Hid (rd ((by_ s).drop k) k n = gt s)) : Hid (gt s = (0, 0, le_ b k)) := HR.out.symm.trans (HS.out.2.1 hb he)
set_option maxRecDepth 1000000 in
set_option maxHeartbeats 2000000 in
theorem get_any (s : ByteArray) (w : World) (hs : s.size ≤ 1000000) : Calls Try.prog 14 #[.string s] w (RetGet w s) := by
  have HB := hide (by_len s)
  by_cases h10 : s.size ≤ 10
  · go_enter Try.func14, Try.ntmps14
    go_wp2
    go_loop [5, 11] (fun x i => ∃ k n : Nat, i = .int .i64 k ∧ k ≤ s.size ∧ x = .int .u64 n ∧ n < 18446744073709551616 ∧ Hid (k ≤ 9 → n < 128 ^ k) ∧ Hid (rd ((by_ s).drop k) k n = gt s)) (fun _ i => (s.size - (intOf i).toNat))
    case atStart => exact ⟨0, 0, rfl, by omega, rfl, by decide, fun _ => by decide, rfl⟩
    case round =>
      obtain ⟨k, n, rfl, hk, rfl, hn, HN, HR⟩ := hrel
      by_cases hlt : k < s.size
      · obtain ⟨b, hb⟩ : ∃ b, b = (by_ s).getD k 0 := ⟨_, rfl⟩
        have Hb := hide hb
        clear hb
        have hks : k < s.size := by omega
        have hix : ∀ W : World, (Instr.index 9 (.string s) (.int .i64 (k : Int))).run Try.prog W = .ok (.int .u8 (b : Int)) W := fun W => ix_str s k b hks Hb W
        have hb256 : b < 256 := by rw [Hb.out]; exact byte_lt s k
        obtain ⟨m, hm, hor, hmv⟩ := or_val (n := n) (k := k) (b := b) (by omega) (HN.out (by omega)) hb256
        have HM := hide hmv
        clear hmv
        have HS : Hid (RdStep s k n b) := rd_all hks (by omega) Hb.out HB.out
        by_cases hb : 128 ≤ b
        · have HX := get_next (by omega) hb HN HM HS HR
          go_wp2
          go_round
          case rel => exact ⟨k + 1, m, by go_num, by omega, rfl, hm, HX.1, HX.2⟩
          case measure => simp [intOf]; omega
        · by_cases he : le_ b k = 0
          · have HX := get_ok (by omega) he HM HS HR
            go_wp2_with (go_at_call 44; refine (last_any b k _ hb256 (by omega)).mono ?_; rintro e w' ⟨rfl, rfl⟩; rw [he])
            go_ret3
            exact ⟨by rw [HX.out]; rfl, rfl⟩
          · have HX := get_err (by omega) he HS HR
            have he' : (((le_ b k : Nat) : Int) != 0) = true := by rw [bne_iff_ne]; omega
            go_wp2_with (go_at_call 44; refine (last_any b k _ hb256 (by omega)).mono ?_; rintro e w' ⟨rfl, rfl⟩)
            go_ret3
            exact ⟨by rw [HX.out]; rfl, rfl⟩
      · obtain rfl : k = s.size := by omega
        by_cases h10 : s.size < 10
        · have hE : Hid (gt s = (0, 0, 9)) := HR.out.symm.trans (rd_short (by rw [HB.out]) h10)
          go_wp2
          go_ret3
          exact ⟨by rw [hE.out]; rfl, rfl⟩
        · have hE : Hid (gt s = (0, 0, 7)) := HR.out.symm.trans (by rw [show s.size = 10 by omega]; exact rd_ten _ _)
          go_wp2
          go_ret3
          exact ⟨by rw [hE.out]; rfl, rfl⟩
  · go_enter Try.func14, Try.ntmps14
    go_wp2
    go_loop [5, 11] (fun x i => ∃ k n : Nat, i = .int .i64 k ∧ k ≤ 10 ∧ x = .int .u64 n ∧ n < 18446744073709551616 ∧ Hid (k ≤ 9 → n < 128 ^ k) ∧ Hid (rd ((by_ s).drop k) k n = gt s)) (fun _ i => (10 - (intOf i).toNat))
    case atStart => exact ⟨0, 0, rfl, by omega, rfl, by decide, fun _ => by decide, rfl⟩
    case round =>
      obtain ⟨k, n, rfl, hk, rfl, hn, HN, HR⟩ := hrel
      by_cases hlt : k < 10
      · obtain ⟨b, hb⟩ : ∃ b, b = (by_ s).getD k 0 := ⟨_, rfl⟩
        have Hb := hide hb
        clear hb
        have hks : k < s.size := by omega
        have hix : ∀ W : World, (Instr.index 9 (.string s) (.int .i64 (k : Int))).run Try.prog W = .ok (.int .u8 (b : Int)) W := fun W => ix_str s k b hks Hb W
        have hb256 : b < 256 := by rw [Hb.out]; exact byte_lt s k
        obtain ⟨m, hm, hor, hmv⟩ := or_val (n := n) (k := k) (b := b) (by omega) (HN.out (by omega)) hb256
        have HM := hide hmv
        clear hmv
        have HS : Hid (RdStep s k n b) := rd_all hks (by omega) Hb.out HB.out
        by_cases hb : 128 ≤ b
        · have HX := get_next (by omega) hb HN HM HS HR
          go_wp2
          go_round
          case rel => exact ⟨k + 1, m, by go_num, by omega, rfl, hm, HX.1, HX.2⟩
          case measure => simp [intOf]; omega
        · by_cases he : le_ b k = 0
          · have HX := get_ok (by omega) he HM HS HR
            go_wp2_with (go_at_call 44; refine (last_any b k _ hb256 (by omega)).mono ?_; rintro e w' ⟨rfl, rfl⟩; rw [he])
            go_ret3
            exact ⟨by rw [HX.out]; rfl, rfl⟩
          · have HX := get_err (by omega) he HS HR
            have he' : (((le_ b k : Nat) : Int) != 0) = true := by rw [bne_iff_ne]; omega
            go_wp2_with (go_at_call 44; refine (last_any b k _ hb256 (by omega)).mono ?_; rintro e w' ⟨rfl, rfl⟩)
            go_ret3
            exact ⟨by rw [HX.out]; rfl, rfl⟩
      · obtain rfl : k = 10 := by omega
        have hE : Hid (gt s = (0, 0, 7)) := HR.out.symm.trans (rd_ten _ _)
        go_wp2
        go_ret3
        exact ⟨by rw [hE.out]; rfl, rfl⟩
end Go.Proofs.Ytcgoogdjgocjbaa
