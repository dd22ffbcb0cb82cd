/- Walks that append: the reference's sub, times, mul. -/
import Derived.Test.YtnelnobcecnhlaaB1
import Derived.Test.YtnelnobcecnhlaaMath3
namespace Go.Proofs.Ytnelnobcecnhlaa
open Go.RowKit

set_option maxHeartbeats 1000000 in
theorem rsub_any (A B : Option Addr) (ca cb a b : Nat) (w : World) (hA : Lim w A (lim a)) (hB : Lim w B (lim b)) (n m : Nat) (Hn : Hid (n = (lim a).length)) (Hm : Hid (m = (lim b).length)) (hn : n ≤ 100000) (hle : b ≤ a) :
    Calls Try.prog 49 #[.slice A n ca, .slice B m cb] w (RetLim w (a - b)) := by
  obtain ⟨i0, hi, hz0, hz1, hz2⟩ := info_parts Try.info52
  have Hle := hide hle
  clear hle
  go_enter Try.func49, Try.ntmps49
  go_wp2
  go_loopw [5, 6, 7] (fun v cv i wr => ∃ (k c : Nat) (o : List Nat), k ≤ n ∧ i = .int .i64 k ∧ cv = .int .u64 c ∧ wr.ownsRow w.heap.size 52 1 v k (u32s o) ∧ o.length = k ∧ c ≤ 1 ∧ Dig o ∧
      val o + val ((lim b).take k) = val ((lim a).take k) + bas k * c ∧ Up w wr) (fun _ _ i _ => (n - (intOf i).toNat))
  case atStart => exact ⟨0, 0, [], by omega, rfl, rfl, World.ownsRow_nil _ _ _ _, rfl, by omega, (fun x hx => by cases hx), by simp [val], Up.refl w⟩
  case round =>
    obtain ⟨k, c, o, hk, rfl, rfl, hown, hlen, hc, hdo, hval, hup⟩ := hrel
    have HV := Lib.hid hval
    have HL := Lib.hid hlen
    clear hval hlen
    by_cases hgo : k < n
    · have hx := dig_getD (dig_lim a) k
      have hy := dig_getD (dig_lim b) k
      obtain ⟨x, Hx⟩ : ∃ x, Hid (x = (lim a).getD k 0) := ⟨_, rfl⟩
      obtain ⟨y, Hy⟩ : ∃ y, Hid (y = (lim b).getD k 0) := ⟨_, rfl⟩
      rw [← Hx.out] at hx
      rw [← Hy.out] at hy
      have HS := hide (sub_step (dig_lim a) (dig_lim b) HL.out hc HV.out (s := x + 1000000000 - y - c) (by rw [← Hx.out, ← Hy.out]; omega) hdo)
      have hup0 := hup.size
      go_wp2_with fail
      refine (limb_any A ca (lim a) _ (hA.up hup) n k x Hn Hx (by omega)).mono ?_
      rintro e w' ⟨rfl, rfl⟩
      go_wp2_with fail
      refine (limb_any B cb (lim b) _ (hB.up hup) m k y Hm Hy (by omega)).mono ?_
      rintro e w' ⟨rfl, rfl⟩
      go_wp2_with (at_builtin; refine wpList_append_own _ rfl _ _ 22 rfl w.heap.size 52 i0 (.int .u32 0) 1 4 Try.underlying22 hi hz0 hz1 hz2 rfl (by decide) _ _ _ rfl (hown.alloc _) ⟨wr.heap.size, 0, none⟩ 1 1 (u32s [(x + 1000000000 - y - c) % 1000000000]) rfl rfl (new_one _ _ _ _ (by omega)) (u32s_one _) (by unfold maxLen; omega) (by omega) (by simp; omega) ?_; intro v' w1 hown1 hgrow1 _)
      go_roundw
      case rel => exact ⟨k + 1, 1 - (x + 1000000000 - y - c) / 1000000000, o ++ [(x + 1000000000 - y - c) % 1000000000], by omega, by go_num, by go_num, by rw [u32s_append]; exact hown1, HS.out.1, by omega, HS.out.2.2.1, HS.out.2.2.2, up_append hup hown hgrow1⟩
      case measure => simp [intOf]; omega
    · obtain ⟨A', c', rfl, hcc, hlim, hnew⟩ := own_lim hown
      obtain rfl : k = n := by omega
      have HR : Hid (val o = a - b) := sub_end Hle.out (HL.out.trans Hn.out) hc hdo (by rw [← Hn.out]; exact HV.out)
      go_wp2_with (go_at_call 63; refine (rtrim_any A' c' o _ hlim k HL.out.symm (by omega) hcc).mono ?_; rintro e w' ⟨rfl, rfl⟩)
      go_ret
      exact ret_trim hlim hdo HL.out.symm HR.out hcc hnew hup

theorem u32s_replicate (n : Nat) : List.replicate n (Value.int .u32 0) = u32s (List.replicate n 0) := by simp [u32s]
theorem dig_replicate (n : Nat) : Dig (List.replicate n 0) := fun x hx => by
  have := (List.mem_replicate.1 hx).2
  omega

set_option maxHeartbeats 1000000 in
theorem rtimes_any (A : Option Addr) (ca a q u : Nat) (w : World) (hA : Lim w A (lim a)) (n : Nat) (Hn : Hid (n = (lim a).length)) (hn : n ≤ 100000) (hu : u ≤ 100000) (hq : q < 1000000000) :
    Calls Try.prog 69 #[.slice A n ca, .int .u64 q, .int .i64 u] w (RetLim w (bas u * (a * q))) := by
  obtain ⟨i0, hi, hz0, hz1, hz2⟩ := info_parts Try.info52
  go_enter Try.func69, Try.ntmps69
  go_wp2_with (at_make; refine wpList_make_full _ rfl _ _ 22 rfl w.heap.size 52 i0 (.int .u32 0) 1 Try.underlying22 hi hz0 hz1 _ _ _ _ u rfl rfl rfl rfl (by rw [hz2]; omega) (by unfold maxLen; omega) (Nat.le_refl _) ?_; intro w0 hown0 hgrow0)
  have hup0 : Up w w0 := (Up.refl w).grown hgrow0 (fun k hk => by cases hk)
  have hown00 : w0.ownsRow w.heap.size 52 1 (.slice (some ⟨w.heap.size, 0, none⟩) u u) u (u32s (List.replicate u 0)) := by
    rw [Nat.mul_one, show (Value.int .u32 0).cells = #[.int .u32 0] from rfl, toList_madeCells_one, u32s_replicate] at hown0
    exact hown0
  clear hown0
  go_wp2
  go_loopw [7, 8, 9] (fun v cv i wr => ∃ (k c : Nat) (o : List Nat), k ≤ n + 1 ∧ i = .int .i64 k ∧ cv = .int .u64 c ∧ wr.ownsRow w.heap.size 52 1 v (u + k) (u32s o) ∧ o.length = u + k ∧ c < 1000000000 ∧ (n < k → c = 0) ∧ Dig o ∧
      val o + bas (u + k) * c = bas u * (val ((lim a).take k) * q) ∧ Up w wr) (fun _ _ i _ => (n + 1 - (intOf i).toNat))
  case atStart => exact ⟨0, 0, List.replicate u 0, by omega, rfl, rfl, hown00, by simp, by omega, by omega, dig_replicate u, by simp [val, val_replicate], hup0⟩
  case round =>
    clear hown00 hup0
    obtain ⟨k, c, o, hk, rfl, rfl, hown, hlen, hc, hcz, hdo, hval, hup⟩ := hrel
    have HV := Lib.hid hval
    have HL := Lib.hid hlen
    have HZ := hide hcz
    clear hval hlen hcz
    by_cases hgo : k < n ∨ 0 < c
    · have hkn : k ≤ n := by
        rcases Nat.lt_or_ge n k with h | h
        · have := HZ.out h; omega
        · exact h
      have hx := dig_getD (dig_lim a) k
      have HX0 : Hid (n ≤ k → (lim a).getD k 0 = 0) := fun h => by simp [List.getD, List.getElem?_eq_none (show (lim a).length ≤ k by rw [← Hn.out]; exact h)]
      obtain ⟨x, Hx⟩ : ∃ x, Hid (x = (lim a).getD k 0) := ⟨_, rfl⟩
      rw [← Hx.out] at hx HX0
      have HS := hide (times_step (dig_lim a) hq HL.out hc HV.out (s := x * q + c) (by rw [Hx.out]) hdo)
      have hxq : x * q ≤ 999999999 * 999999999 := Nat.mul_le_mul (by omega) (by omega)
      have hxq0 : Hid (n < k + 1 → (x * q + c) / 1000000000 = 0) := fun h => by
        have : x = 0 := HX0.out (by omega)
        rw [this]; omega
      obtain ⟨p, Hp⟩ : ∃ p, Hid (p = x * q) := ⟨_, rfl⟩
      have hxqi : (x : Int) * (q : Int) = (p : Int) := by rw [Hp.out]; simp
      rw [← Hp.out] at HS hxq hxq0
      have hup0 := hup.size
      have hgo2 : k < n ∨ (¬ k < n ∧ 0 < c) := by omega
      clear hgo HX0
      rcases hgo2 with h1 | ⟨h1, h2⟩
      all_goals
        go_wp2_with fail
        refine (limb_any A ca (lim a) _ (hA.up hup) n k x Hn Hx (by omega)).mono ?_
        rintro e w' ⟨rfl, rfl⟩
        go_wp2_with (at_builtin; refine wpList_append_own _ rfl _ _ 22 rfl w.heap.size 52 i0 (.int .u32 0) 1 4 Try.underlying22 hi hz0 hz1 hz2 rfl (by decide) _ _ _ rfl (hown.alloc _) ⟨wr.heap.size, 0, none⟩ 1 1 (u32s [(p + c) % 1000000000]) rfl rfl (new_one _ _ _ _ (by omega)) (u32s_one _) (by unfold maxLen; omega) (by omega) (by simp; omega) ?_; intro v' w1 hown1 hgrow1 _)
        go_roundw
        case rel => exact ⟨k + 1, (p + c) / 1000000000, o ++ [(p + c) % 1000000000], by omega, by go_num, by go_num, by rw [u32s_append]; exact hown1, HS.out.1, HS.out.2.1, hxq0.out, HS.out.2.2.1, HS.out.2.2.2, up_append hup hown hgrow1⟩
        case measure => simp [intOf]; omega
    · obtain ⟨A', c', rfl, hcc, hlim, hnew⟩ := own_lim hown
      obtain rfl : c = 0 := by omega
      have hkn : n ≤ k := by omega
      clear hgo
      have HR : Hid (val o = bas u * (a * q)) := by
        have h3 := HV.out
        have h1 := Hn.out
        rw [List.take_of_length_le (by omega), val_lim] at h3
        show val o = _
        omega
      go_wp2_with (go_at_call 63; refine (rtrim_any A' c' o _ hlim (u + k) HL.out.symm (by omega) hcc).mono ?_; rintro e w' ⟨rfl, rfl⟩)
      go_ret
      exact ret_trim hlim hdo HL.out.symm HR.out hcc hnew hup

theorem mul_len {a b n m k : Nat} (hn : n = (lim a).length) (hm : m = (lim b).length) : (lim (a * val ((lim b).take k))).length ≤ n + m := by
  rw [lim_len_le, bas_add]
  have h1 : a < bas n := by rw [hn]; exact lim_lt_bas a
  have h2 : val ((lim b).take k) < bas m := by
    have := val_lt (dig_take (dig_lim b) k)
    have h3 : bas ((lim b).take k).length ≤ bas m := bas_mono (by rw [List.length_take, hm]; omega)
    omega
  rcases Nat.eq_zero_or_pos (val ((lim b).take k)) with h0 | h0
  · rw [h0, Nat.mul_zero]; exact Nat.mul_pos (bas_pos _) (bas_pos _)
  · exact Nat.lt_of_lt_of_le (Nat.mul_lt_mul_of_pos_right h1 h0) (Nat.mul_le_mul_left _ (by omega))

set_option maxHeartbeats 1000000 in
theorem rmul_any (A B : Option Addr) (ca cb a b : Nat) (w : World) (hA : Lim w A (lim a)) (hB : Lim w B (lim b)) (n m : Nat) (Hn : Hid (n = (lim a).length)) (Hm : Hid (m = (lim b).length)) (hn : n ≤ 10000) (hm : m ≤ 10000) :
    Calls Try.prog 53 #[.slice A n ca, .slice B m cb] w (RetLim w (a * b)) := by
  go_enter Try.func53, Try.ntmps53
  go_wp2
  go_loopw [5, 6] (fun v i wr => ∃ (k l c : Nat) (A' : Option Addr), k ≤ m ∧ i = .int .i64 k ∧ v = .slice A' l c ∧ l ≤ c ∧ l = (lim (a * val ((lim b).take k))).length ∧ Lim wr A' (lim (a * val ((lim b).take k))) ∧ NewB w.heap.size A' ∧ Up w wr) (fun _ i _ => (m - (intOf i).toNat))
  case atStart => exact ⟨0, 0, 0, none, by omega, rfl, rfl, by omega, by simp [val, lim_zero], by simp [val, lim_zero, Lim.nil], NewB.none_ _, Up.refl w⟩
  case round =>
    obtain ⟨k, l, c, A', hk, rfl, rfl, hlc, hl, hlim, hnew, hup⟩ := hrel
    have HL := Lib.hid hl
    clear hl
    have hln : l ≤ 20000 := by rw [HL.out]; have := mul_len (a := a) (b := b) (k := k) Hn.out Hm.out; omega
    by_cases hgo : k < m
    · obtain ⟨ad, rfl, hb, hcell⟩ := (hB.up hup).at_ (k := k) (by rw [← Hm.out]; exact hgo)
      have hx := dig_getD (dig_lim b) k
      obtain ⟨x, Hx⟩ : ∃ x, Hid (x = (lim b).getD k 0) := ⟨_, rfl⟩
      rw [← Hx.out] at hx hcell
      have HT : Hid (a * val ((lim b).take k) + bas k * (a * x) = a * val ((lim b).take (k + 1))) := by
        show _ = _
        rw [val_take_step, ← Hx.out, Nat.mul_add, Nat.mul_left_comm]
      have HTL : Hid ((lim (bas k * (a * x))).length ≤ 20000) := by
        show _ ≤ _
        have h1 : bas k * (a * x) ≤ a * val ((lim b).take (k + 1)) := by have := HT.out; omega
        have := mul_len (a := a) (b := b) (k := k + 1) Hn.out Hm.out
        have := lim_len_mono h1
        omega
      go_wp2_with (go_at_call 69; refine (rtimes_any A ca a x k _ (hA.up hup) n Hn (by omega) (by omega) (by omega)).mono ?_; rintro e w1 ⟨A1, l1, c1, rfl, HL1, hlim1, hc1, _, hup1⟩)
      have hl1 : l1 ≤ 20000 := by rw [HL1.out]; exact HTL.out
      refine (radd_any A' A1 c c1 _ _ _ (hlim.up hup1) hlim1 l l1 HL HL1 (by omega) (by omega)).mono ?_
      rintro e w2 ⟨A2, l2, c2, rfl, HL2, hlim2, hc2, hnew2, hup2⟩
      rw [HT.out] at hlim2 HL2
      go_wp2
      go_roundw
      case rel => exact ⟨k + 1, l2, c2, A2, by omega, by go_num, rfl, hc2, HL2.out, hlim2, hnew2.mono (Nat.le_trans hup.size hup1.size), (hup.trans hup1).trans hup2⟩
      case measure => simp [intOf]; omega
    · obtain rfl : k = m := by omega
      have HE : Hid (a * val ((lim b).take k) = a * b) := by show _ = _; rw [Hm.out, List.take_length, val_lim]
      rw [HE.out] at hlim HL
      go_wp2
      go_ret
      exact ⟨A', l, c, rfl, HL, hlim, hlc, hnew, hup⟩
end Go.Proofs.Ytnelnobcecnhlaa
