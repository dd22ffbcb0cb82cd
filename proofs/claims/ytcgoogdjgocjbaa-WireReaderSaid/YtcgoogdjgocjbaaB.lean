/- Walks: codes of strings and integers. -/
import Derived.Test.YtcgoogdjgocjbaaA
import Derived.Lib.Zigzag
namespace Go.Proofs.Ytcgoogdjgocjbaa
open Go.RowKit

/-- The code of a string, of a list of strings. -/
def cs (s : ByteArray) : List Nat := vi s.size ++ by_ s
theorem cs_lt (s : ByteArray) : ∀ x ∈ cs s, x < 256 := fun x hx => by
  rcases List.mem_append.1 hx with h | h
  · exact vi_byte _ x h
  · exact by_lt s x h
theorem cs_len (s : ByteArray) (h : s.size ≤ 1000000) : (cs s).length ≤ s.size + 10 := by
  have := vi_len10 (n := s.size) (by omega)
  unfold cs
  rw [List.length_append, by_len]; omega
set_option maxHeartbeats 400000 in
theorem as_any (base : Nat) (v : Value) (m : Nat) (l : List Nat) (s : ByteArray) (w : World) (hown : Own w base v m l) (hm : m + s.size ≤ 800000) (hbase : base ≤ w.heap.size) :
    Calls Try.prog 46 #[v, .string s] w (RetApp w base (l ++ cs s)) := by
  have hlen := vi_len10 (n := s.size) (by omega)
  go_enter Try.func46, Try.ntmps46
  go_wp2_with (first | (go_at_call 43; refine (av_any base _ m l s.size _ hown (by omega) (by omega) hbase).mono ?_; rintro e w1 ⟨v1, m1, rfl, hown1, hup1⟩; have hl1 := hown1.len; rw [List.length_append, hown.len] at hl1; have hs1 := hup1.size) | (at_builtin; refine wp_apps rfl _ _ rfl base _ m1 _ rfl hown1 s rfl (by omega) (by omega) ?_; intro v2 w2 hown2 hgrow2))
  go_ret
  exact ⟨v2, _, rfl, by unfold cs; rw [← List.append_assoc]; exact hown2, hown1.grownB hup1 hgrow2 (by omega)⟩
set_option maxHeartbeats 400000 in
theorem ps_any (s : ByteArray) (w : World) (hs : s.size ≤ 800000) : Calls Try.prog 23 #[.string s] w (RetStr w (bs (cs s))) := by
  go_enter Try.func23, Try.ntmps23
  go_wp2_with (go_at_call 46; refine (as_any w.heap.size _ 0 [] s _ (Own.nil _ _) (by omega) (Nat.le_refl _)).mono ?_; rintro e w1 ⟨v1, m1, rfl, hown1, hup1⟩; obtain ⟨A1, c1, rfl, _, hlim1, _⟩ := hown1.lim; have hcv := run_str w1 A1 m1 c1 _ hlim1 hown1.len (by exact cs_lt s))
  go_ret
  exact ⟨rfl, hup1⟩
set_option maxHeartbeats 400000 in
theorem rps_any (s : ByteArray) (w : World) (hs : s.size ≤ 800000) : Calls Try.prog 25 #[.string s] w (RetStr w (bs (cs s))) := by
  have hlen := vi_len10 (n := s.size) (by omega)
  have hadd : ∀ w1 : World, (Op.stringOp .add (bs (vi s.size)) s).run Try.prog w1 = .ok (.string (bs (cs s))) w1 := fun w1 => by
    rw [run_string_add_sum w1 _ _ (by rw [bs_size]; omega)]
    unfold cs
    rw [← bs_append, bs_by]
  go_enter Try.func25, Try.ntmps25
  go_wp2_with (go_at_call 15; refine (rput_any s.size _ (by omega)).mono ?_; rintro e w1 ⟨rfl, hup1⟩)
  go_ret
  exact ⟨rfl, hup1⟩

/-- The number whose varint is the code of an integer, and back. -/
def zz (z : Int) : Nat := if 0 ≤ z then (2 * z).toNat else (-2 * z - 1).toNat
def uz (u : Nat) : Int := if u % 2 = 0 then (u / 2 : Nat) else -((u / 2 : Nat) : Int) - 1
theorem uz_zz (z : Int) : uz (zz z) = z := by unfold uz zz; split <;> split <;> omega
theorem zz_lt {z : Int} (h1 : -9223372036854775808 ≤ z) (h2 : z ≤ 9223372036854775807) : zz z < 18446744073709551616 := by unfold zz; split <;> omega
theorem zz_bits {z : Int} (h1 : -9223372036854775808 ≤ z) (h2 : z ≤ 9223372036854775807) : bits .xor .u64 (IntKind.u64.wrap (IntKind.u64.wrap z * 2)) (IntKind.u64.wrap (z / 9223372036854775808)) = ((zz z : Nat) : Int) := by
  by_cases hz : 0 ≤ z
  · have e1 : IntKind.u64.wrap (IntKind.u64.wrap z * 2) = (((2 * z).toNat : Nat) : Int) := by
      rw [IntKind.wrap_u64, IntKind.wrap_u64]; omega
    have e2 : IntKind.u64.wrap (z / 9223372036854775808) = ((0 : Nat) : Int) := by rw [IntKind.wrap_u64]; omega
    rw [e1, e2, bits_xor_u64_nat _ _ (by omega) (by decide), Nat.xor_zero]
    unfold zz; rw [if_pos hz]
  · have e1 : IntKind.u64.wrap (IntKind.u64.wrap z * 2) = (((2 * z + 18446744073709551616).toNat : Nat) : Int) := by
      rw [IntKind.wrap_u64, IntKind.wrap_u64]; omega
    have e2 : IntKind.u64.wrap (z / 9223372036854775808) = ((2 ^ 64 - 1 : Nat) : Int) := by rw [IntKind.wrap_u64]; omega
    rw [e1, e2, bits_xor_u64_nat _ _ (by omega) (by decide), Nat.xor_comm, Lib.xor_ones64 _ (by omega)]
    unfold zz; rw [if_neg hz]; omega
set_option maxRecDepth 1000000 in
set_option maxHeartbeats 1000000 in
theorem zig_any (z : Int) (w : World) (h1 : -9223372036854775808 ≤ z) (h2 : z ≤ 9223372036854775807) : Calls Try.prog 52 #[.int .i64 z] w fun e w' => e = .returned (.int .u64 (zz z : Nat)) ∧ w = w' := by
  by_cases hz : 0 ≤ z
  · have he : Hid ((zz z : Int) = 2 * z) := by show (zz z : Int) = 2 * z; unfold zz; rw [if_pos hz]; omega
    go_enter Try.func52, Try.ntmps52
    go_wp2
    go_ret
    exact ⟨ret_int (by rw [he.out] <;> go_num), rfl⟩
  · have he : Hid ((zz z : Int) = -2 * z - 1) := by show (zz z : Int) = -2 * z - 1; unfold zz; rw [if_neg hz]; omega
    go_enter Try.func52, Try.ntmps52
    go_wp2
    go_ret
    exact ⟨ret_int (by rw [he.out] <;> go_num), rfl⟩
set_option maxRecDepth 1000000 in
set_option maxHeartbeats 1000000 in
theorem integer_any (u : Nat) (w : World) (h : u < 18446744073709551616) : Calls Try.prog 53 #[.int .u64 u] w fun e w' => e = .returned (.int .i64 (uz u)) ∧ w = w' := by
  by_cases hz : u % 2 = 0
  · have he : Hid (uz u = (u / 2 : Nat)) := by show uz u = _; unfold uz; rw [if_pos hz]
    have hz' : ((u : Int) % 2 == 0) = true := by rw [beq_iff_eq]; omega
    go_enter Try.func53, Try.ntmps53
    go_wp2
    go_ret
    exact ⟨ret_int (by rw [he.out] <;> go_num), rfl⟩
  · have he : Hid (uz u = -((u / 2 : Nat) : Int) - 1) := by show uz u = _; unfold uz; rw [if_neg hz]
    have hz' : ((u : Int) % 2 == 0) = false := by rw [beq_eq_false_iff_ne]; omega
    go_enter Try.func53, Try.ntmps53
    go_wp2
    go_ret
    exact ⟨ret_int (by rw [he.out] <;> go_num), rfl⟩
set_option maxRecDepth 1000000 in
set_option maxHeartbeats 1000000 in
theorem ai_any (base : Nat) (v : Value) (m : Nat) (l : List Nat) (z : Int) (w : World) (hown : Own w base v m l) (hm : m ≤ 900000) (h1 : -9223372036854775808 ≤ z) (h2 : z ≤ 9223372036854775807) (hbase : base ≤ w.heap.size) :
    Calls Try.prog 49 #[v, .int .i64 z] w (RetApp w base (l ++ vi (zz z))) := by
  have hlt := zz_lt h1 h2
  go_enter Try.func49, Try.ntmps49
  go_wp2_with fail
  rw [zz_bits h1 h2]
  refine (av_any base _ m l (zz z) _ hown hm hlt hbase).mono ?_
  rintro e w1 ⟨v1, m1, rfl, hown1, hup1⟩
  go_wp2
  go_ret
  exact ⟨v1, _, rfl, hown1, hup1⟩
end Go.Proofs.Ytcgoogdjgocjbaa
