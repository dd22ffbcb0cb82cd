/- Walks that append: the reference's add. -/
import Derived.Test.YtnelnobcecnhlaaA2
import Derived.Test.YtnelnobcecnhlaaBase2
import Derived.Maps.AppendAt
namespace Go.Proofs.Ytnelnobcecnhlaa
open Go.RowKit

theorem add_step {a b o : List Nat} {k c s : Nat} (ha : Dig a) (hb : Dig b) (hlen : o.length = k) (hc : c ≤ 1) (hv : val o + bas k * c = val (a.take k) + val (b.take k)) (hs : s = a.getD k 0 + b.getD k 0 + c) (ho : Dig o) :
    (o ++ [s % 1000000000]).length = k + 1 ∧ s / 1000000000 ≤ 1 ∧ Dig (o ++ [s % 1000000000]) ∧ val (o ++ [s % 1000000000]) + bas (k + 1) * (s / 1000000000) = val (a.take (k + 1)) + val (b.take (k + 1)) := by
  have h1 := dig_getD ha k
  have h2 := dig_getD hb k
  refine ⟨by simp [hlen], by omega, ?_, ?_⟩
  · intro x hx
    rcases List.mem_append.1 hx with h | h
    · exact ho x h
    · simp at h; omega
  · have key : ∀ (l : List Nat), val (l.take (k + 1)) = val (l.take k) + bas k * l.getD k 0 := fun l => by
      by_cases h : k < l.length
      · exact val_take_succ l h
      · rw [List.take_of_length_le (by omega), List.take_of_length_le (by omega)]
        simp [List.getD, List.getElem?_eq_none (Nat.le_of_not_lt h)]
    rw [key, key, val_snoc, hlen, bas]
    have e : s = s % 1000000000 + 1000000000 * (s / 1000000000) := by omega
    have e2 : bas k * s = bas k * (s % 1000000000) + 1000000000 * bas k * (s / 1000000000) := by
      conv => lhs; rw [e]
      rw [Nat.mul_add, ← Nat.mul_assoc, Nat.mul_comm (bas k) 1000000000]
    have e3 : bas k * s = bas k * a.getD k 0 + bas k * b.getD k 0 + bas k * c := by rw [hs, Nat.mul_add, Nat.mul_add]
    omega

set_option maxHeartbeats 1000000 in
theorem radd_any (A B : Option Addr) (ca cb a b : Nat) (w : World) (hA : Lim w A (lim a)) (hB : Lim w B (lim b)) (n m : Nat) (Hn : Hid (n = (lim a).length)) (Hm : Hid (m = (lim b).length)) (hn : n ≤ 100000) (hm : m ≤ 100000) :
    Calls Try.prog 47 #[.slice A n ca, .slice B m cb] w (RetLim w (a + b)) := by
  obtain ⟨i0, hi, hz0, hz1, hz2⟩ := info_parts Try.info52
  go_enter Try.func47, Try.ntmps47
  go_wp2
  go_loopw [5, 6, 7] (fun v cv i wr => ∃ (k c : Nat) (o : List Nat), k ≤ n + m + 1 ∧ i = .int .i64 k ∧ cv = .int .u64 c ∧ wr.ownsRow w.heap.size 52 1 v k (u32s o) ∧ o.length = k ∧ c ≤ 1 ∧ Dig o ∧
      val o + bas k * c = val ((lim a).take k) + val ((lim b).take k) ∧ Up w wr) (fun _ _ i _ => (n + m + 2 - (intOf i).toNat))
  case atStart => exact ⟨0, 0, [], by omega, rfl, rfl, World.ownsRow_nil _ _ _ _, rfl, by omega, (fun x hx => by cases hx), by simp [val], Up.refl w⟩
  case round =>
    obtain ⟨k, c, o, hk, rfl, rfl, hown, hlen, hc, hdo, hval, hup⟩ := hrel
    have HV := Lib.hid hval
    have HL := Lib.hid hlen
    clear hval hlen
    have hx := dig_getD (dig_lim a) k
    have hy := dig_getD (dig_lim b) k
    obtain ⟨x, Hx⟩ : ∃ x, Hid (x = (lim a).getD k 0) := ⟨_, rfl⟩
    obtain ⟨y, Hy⟩ : ∃ y, Hid (y = (lim b).getD k 0) := ⟨_, rfl⟩
    rw [← Hx.out] at hx
    rw [← Hy.out] at hy
    by_cases hgo : k < n ∨ k < m ∨ 0 < c
    · have hkm : k ≤ n + m := by
        have h1 := Hn.out
        have h2 := Hm.out
        rcases Nat.lt_or_ge (n + m) k with h | h
        · have h3 := HV.out
          rw [List.take_of_length_le (by omega), List.take_of_length_le (by omega), val_lim, val_lim] at h3
          have h4 : a < bas n := by rw [h1]; exact lim_lt_bas a
          have h5 : b < bas m := by rw [h2]; exact lim_lt_bas b
          have h6 : bas (n + m + 1) ≤ bas k := bas_mono h
          have h7 : bas n ≤ bas (n + m) := bas_mono (by omega)
          have h8 : bas m ≤ bas (n + m) := bas_mono (by omega)
          rw [bas_succ] at h6
          have h9 : c = 0 := by
            rcases Nat.eq_zero_or_pos c with h | h
            · exact h
            · have : bas k * 1 ≤ bas k * c := Nat.mul_le_mul_left _ h
              omega
          omega
        · exact h
      have HS := hide (add_step (dig_lim a) (dig_lim b) HL.out hc HV.out (s := x + y + c) (by rw [Hx.out, Hy.out]) hdo)
      have hup0 := hup.size
      have hk1 : k + 1 ≤ n + m + 1 := by omega
      have hgo3 : k < n ∨ (¬ k < n ∧ k < m) ∨ (¬ k < n ∧ ¬ k < m ∧ 0 < c) := by omega
      clear hgo
      rcases hgo3 with h1 | ⟨h1, h2⟩ | ⟨h1, h2, h3⟩
      all_goals
        go_wp2_with fail
        refine (limb_any A ca (lim a) _ (hA.up hup) n k x Hn Hx (by omega)).mono ?_
        rintro e w' ⟨rfl, rfl⟩
        go_wp2_with fail
        refine (limb_any B cb (lim b) _ (hB.up hup) m k y Hm Hy (by omega)).mono ?_
        rintro e w' ⟨rfl, rfl⟩
        go_wp2_with (at_builtin; refine wpList_append_own _ rfl _ _ 22 rfl w.heap.size 52 i0 (.int .u32 0) 1 4 Try.underlying22 hi hz0 hz1 hz2 rfl (by decide) _ _ _ rfl (hown.alloc _) ⟨wr.heap.size, 0, none⟩ 1 1 (u32s [(x + y + c) % 1000000000]) rfl rfl (new_one _ _ _ _ (by omega)) (u32s_one _) (by unfold maxLen; omega) (by omega) (by simp; omega) ?_; intro v' w1 hown1 hgrow1 _)
        go_roundw
        case rel => exact ⟨k + 1, (x + y + c) / 1000000000, o ++ [(x + y + c) % 1000000000], hk1, by go_num, by go_num, by rw [u32s_append]; exact hown1, HS.out.1, HS.out.2.1, HS.out.2.2.1, HS.out.2.2.2, up_append hup hown hgrow1⟩
        case measure => simp [intOf]; omega
    · obtain ⟨A', c', rfl, hcc, hlim, hnew⟩ := own_lim hown
      obtain rfl : c = 0 := by omega
      have hkn : n ≤ k := by omega
      have hkm : m ≤ k := by omega
      clear hgo
      have HR : Hid (val o = a + b) := by
        have h3 := HV.out
        have h1 := Hn.out
        have h2 := Hm.out
        rw [List.take_of_length_le (by omega), List.take_of_length_le (by omega), val_lim, val_lim] at h3
        show val o = a + b
        omega
      go_wp2_with (go_at_call 63; refine (rtrim_any A' c' o _ hlim k HL.out.symm (by omega) hcc).mono ?_; rintro e w' ⟨rfl, rfl⟩)
      go_ret
      exact ret_trim hlim hdo HL.out.symm HR.out hcc hnew hup
end Go.Proofs.Ytnelnobcecnhlaa
