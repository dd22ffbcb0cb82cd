import Derived.Test.YtldifgfpecicnaaGreatDoorGB
import Derived.Maps.AppendAt
import Derived.Test.YtldifgfpecicnaaGreatDoorGA
import Derived.Deep.RegionHeld3
import Derived.Deep.RegionWith
import Derived.Deep.LoopGhost
/- Walks that append: the reference's add. -/
namespace Go.Proofs.YtldifgfpecicnaaGreatDoor
open Go.RowKit

theorem add_step {a b o : List Nat} {k c s : Nat} (ha : Dig a) (hb : Dig b) (hlen : o.length = k) (hc : c ≤ 1) (hv : val o + bas k * c = val (a.take k) + val (b.take k)) (hs : s = a.getD k 0 + b.getD k 0 + c) (ho : Dig o) :
    (o ++ [s % 1000000000]).length = k + 1 ∧ s / 1000000000 ≤ 1 ∧ Dig (o ++ [s % 1000000000]) ∧ val (o ++ [s % 1000000000]) + bas (k + 1) * (s / 1000000000) = val (a.take (k + 1)) + val (b.take (k + 1)) := by
  have h1 := dig_getD ha k
  have h2 := dig_getD hb k
  refine ⟨by simp [hlen], by omega, ?_, ?_⟩
  · intro x hx
    rcases List.mem_append.1 hx with h | h
    · exact ho x h
    · simp at h; omega
  · have key : ∀ (l : List Nat), val (l.take (k + 1)) = val (l.take k) + bas k * l.getD k 0 := fun l => by
      by_cases h : k < l.length
      · exact val_take_succ l h
      · rw [List.take_of_length_le (by omega), List.take_of_length_le (by omega)]
        simp [List.getD, List.getElem?_eq_none (Nat.le_of_not_lt h)]
    rw [key, key, val_snoc, hlen, bas]
    have e : s = s % 1000000000 + 1000000000 * (s / 1000000000) := by omega
    have e2 : bas k * s = bas k * (s % 1000000000) + 1000000000 * bas k * (s / 1000000000) := by
      conv => lhs; rw [e]
      rw [Nat.mul_add, ← Nat.mul_assoc, Nat.mul_comm (bas k) 1000000000]
    have e3 : bas k * s = bas k * a.getD k 0 + bas k * b.getD k 0 + bas k * c := by rw [hs, Nat.mul_add, Nat.mul_add]
    omega

set_option maxRecDepth 100000 in
set_option maxHeartbeats 1000000 in
theorem radd_any (A B : Option Addr) (ca cb a b : Nat) (w : World) (hA : Lim w A (lim a)) (hB : Lim w B (lim b)) (n m : Nat) (Hn : Hid (n = (lim a).length)) (Hm : Hid (m = (lim b).length)) (hn : n ≤ 100000) (hm : m ≤ 100000) :
    Calls Tryz.prog 134 #[.slice A n ca, .slice B m cb] w (RetLim w (a + b)) := by
  obtain ⟨i0, hi, hz0, hz1, hz2⟩ := info_parts Tryz.info91
  go_enter Tryz.func134, Tryz.ntmps134
  go_wp2
  go_loopw [5, 6, 7] (fun v cv i wr => ∃ (k c : Nat) (o : List Nat), k ≤ n + m + 1 ∧ i = .int .i64 k ∧ cv = .int .u64 c ∧ wr.ownsRow w.heap.size 91 1 v k (u32s o) ∧ o.length = k ∧ c ≤ 1 ∧ Dig o ∧
      val o + bas k * c = val ((lim a).take k) + val ((lim b).take k) ∧ Up w wr) (fun _ _ i _ => (n + m + 2 - (intOf i).toNat))
  case atStart => exact ⟨0, 0, [], by omega, rfl, rfl, World.ownsRow_nil _ _ _ _, rfl, by omega, (fun x hx => by cases hx), by simp [val], Up.refl w⟩
  case round =>
    obtain ⟨k, c, o, hk, rfl, rfl, hown, hlen, hc, hdo, hval, hup⟩ := hrel
    have HV := Lib.hid hval
    have HL := Lib.hid hlen
    clear hval hlen
    have hx := dig_getD (dig_lim a) k
    have hy := dig_getD (dig_lim b) k
    obtain ⟨x, Hx⟩ : ∃ x, Hid (x = (lim a).getD k 0) := ⟨_, rfl⟩
    obtain ⟨y, Hy⟩ : ∃ y, Hid (y = (lim b).getD k 0) := ⟨_, rfl⟩
    rw [← Hx.out] at hx
    rw [← Hy.out] at hy
    by_cases hgo : k < n ∨ k < m ∨ 0 < c
    · have hkm : k ≤ n + m := by
        have h1 := Hn.out
        have h2 := Hm.out
        rcases Nat.lt_or_ge (n + m) k with h | h
        · have h3 := HV.out
          rw [List.take_of_length_le (by omega), List.take_of_length_le (by omega), val_lim, val_lim] at h3
          have h4 : a < bas n := by rw [h1]; exact lim_lt_bas a
          have h5 : b < bas m := by rw [h2]; exact lim_lt_bas b
          have h6 : bas (n + m + 1) ≤ bas k := bas_mono h
          have h7 : bas n ≤ bas (n + m) := bas_mono (by omega)
          have h8 : bas m ≤ bas (n + m) := bas_mono (by omega)
          rw [bas_succ] at h6
          have h9 : c = 0 := by
            rcases Nat.eq_zero_or_pos c with h | h
            · exact h
            · have : bas k * 1 ≤ bas k * c := Nat.mul_le_mul_left _ h
              omega
          omega
        · exact h
      have HS := hide (add_step (dig_lim a) (dig_lim b) HL.out hc HV.out (s := x + y + c) (by rw [Hx.out, Hy.out]) hdo)
      have hup0 := hup.size
      have hk1 : k + 1 ≤ n + m + 1 := by omega
      have hgo3 : k < n ∨ (¬ k < n ∧ k < m) ∨ (¬ k < n ∧ ¬ k < m ∧ 0 < c) := by omega
      clear hgo
      rcases hgo3 with h1 | ⟨h1, h2⟩ | ⟨h1, h2, h3⟩
      all_goals
        go_wp2_with fail
        refine (limb_any A ca (lim a) _ (hA.up hup) n k x Hn Hx (by omega)).mono ?_
        rintro e w' ⟨rfl, rfl⟩
        go_wp2_with fail
        refine (limb_any B cb (lim b) _ (hB.up hup) m k y Hm Hy (by omega)).mono ?_
        rintro e w' ⟨rfl, rfl⟩
        go_wp2_with (at_builtin; refine wpList_append_own _ rfl _ _ 22 rfl w.heap.size 91 i0 (.int .u32 0) 1 4 Tryz.underlying22 hi hz0 hz1 hz2 rfl (by decide) _ _ _ rfl (hown.alloc _) ⟨wr.heap.size, 0, none⟩ 1 1 (u32s [(x + y + c) % 1000000000]) rfl rfl (new_one _ _ _ _ (by omega)) (u32s_one _) (by unfold maxLen; omega) (by omega) (by simp; omega) ?_; intro v' w1 hown1 hgrow1 _)
        go_roundw
        case rel => exact ⟨k + 1, (x + y + c) / 1000000000, o ++ [(x + y + c) % 1000000000], hk1, by go_num, by go_num, by rw [u32s_append]; exact hown1, HS.out.1, HS.out.2.1, HS.out.2.2.1, HS.out.2.2.2, up_append hup hown hgrow1⟩
        case measure => simp [intOf]; omega
    · obtain ⟨A', c', rfl, hcc, hlim, hnew⟩ := own_lim hown
      obtain rfl : c = 0 := by omega
      have hkn : n ≤ k := by omega
      have hkm : m ≤ k := by omega
      clear hgo
      have HR : Hid (val o = a + b) := by
        have h3 := HV.out
        have h1 := Hn.out
        have h2 := Hm.out
        rw [List.take_of_length_le (by omega), List.take_of_length_le (by omega), val_lim, val_lim] at h3
        show val o = a + b
        omega
      go_wp2_with (go_at_call 113; refine (rtrim_any A' c' o _ hlim k HL.out.symm (by omega) hcc).mono ?_; rintro e w' ⟨rfl, rfl⟩)
      go_ret
      exact ret_trim hlim hdo HL.out.symm HR.out hcc hnew hup
end Go.Proofs.YtldifgfpecicnaaGreatDoor
/- Walks that append: the reference's sub, times, mul. -/
namespace Go.Proofs.YtldifgfpecicnaaGreatDoor
open Go.RowKit

set_option maxRecDepth 100000 in
set_option maxHeartbeats 1000000 in
theorem rsub_any (A B : Option Addr) (ca cb a b : Nat) (w : World) (hA : Lim w A (lim a)) (hB : Lim w B (lim b)) (n m : Nat) (Hn : Hid (n = (lim a).length)) (Hm : Hid (m = (lim b).length)) (hn : n ≤ 100000) (hle : b ≤ a) :
    Calls Tryz.prog 115 #[.slice A n ca, .slice B m cb] w (RetLim w (a - b)) := by
  obtain ⟨i0, hi, hz0, hz1, hz2⟩ := info_parts Tryz.info91
  have Hle := hide hle
  clear hle
  go_enter Tryz.func115, Tryz.ntmps115
  go_wp2
  go_loopw [5, 6, 7] (fun v cv i wr => ∃ (k c : Nat) (o : List Nat), k ≤ n ∧ i = .int .i64 k ∧ cv = .int .u64 c ∧ wr.ownsRow w.heap.size 91 1 v k (u32s o) ∧ o.length = k ∧ c ≤ 1 ∧ Dig o ∧
      val o + val ((lim b).take k) = val ((lim a).take k) + bas k * c ∧ Up w wr) (fun _ _ i _ => (n - (intOf i).toNat))
  case atStart => exact ⟨0, 0, [], by omega, rfl, rfl, World.ownsRow_nil _ _ _ _, rfl, by omega, (fun x hx => by cases hx), by simp [val], Up.refl w⟩
  case round =>
    obtain ⟨k, c, o, hk, rfl, rfl, hown, hlen, hc, hdo, hval, hup⟩ := hrel
    have HV := Lib.hid hval
    have HL := Lib.hid hlen
    clear hval hlen
    by_cases hgo : k < n
    · have hx := dig_getD (dig_lim a) k
      have hy := dig_getD (dig_lim b) k
      obtain ⟨x, Hx⟩ : ∃ x, Hid (x = (lim a).getD k 0) := ⟨_, rfl⟩
      obtain ⟨y, Hy⟩ : ∃ y, Hid (y = (lim b).getD k 0) := ⟨_, rfl⟩
      rw [← Hx.out] at hx
      rw [← Hy.out] at hy
      have HS := hide (sub_step (dig_lim a) (dig_lim b) HL.out hc HV.out (s := x + 1000000000 - y - c) (by rw [← Hx.out, ← Hy.out]; omega) hdo)
      have hup0 := hup.size
      go_wp2_with fail
      refine (limb_any A ca (lim a) _ (hA.up hup) n k x Hn Hx (by omega)).mono ?_
      rintro e w' ⟨rfl, rfl⟩
      go_wp2_with fail
      refine (limb_any B cb (lim b) _ (hB.up hup) m k y Hm Hy (by omega)).mono ?_
      rintro e w' ⟨rfl, rfl⟩
      go_wp2_with (at_builtin; refine wpList_append_own _ rfl _ _ 22 rfl w.heap.size 91 i0 (.int .u32 0) 1 4 Tryz.underlying22 hi hz0 hz1 hz2 rfl (by decide) _ _ _ rfl (hown.alloc _) ⟨wr.heap.size, 0, none⟩ 1 1 (u32s [(x + 1000000000 - y - c) % 1000000000]) rfl rfl (new_one _ _ _ _ (by omega)) (u32s_one _) (by unfold maxLen; omega) (by omega) (by simp; omega) ?_; intro v' w1 hown1 hgrow1 _)
      go_roundw
      case rel => exact ⟨k + 1, 1 - (x + 1000000000 - y - c) / 1000000000, o ++ [(x + 1000000000 - y - c) % 1000000000], by omega, by go_num, by go_num, by rw [u32s_append]; exact hown1, HS.out.1, by omega, HS.out.2.2.1, HS.out.2.2.2, up_append hup hown hgrow1⟩
      case measure => simp [intOf]; omega
    · obtain ⟨A', c', rfl, hcc, hlim, hnew⟩ := own_lim hown
      obtain rfl : k = n := by omega
      have HR : Hid (val o = a - b) := sub_end Hle.out (HL.out.trans Hn.out) hc hdo (by rw [← Hn.out]; exact HV.out)
      go_wp2_with (go_at_call 113; refine (rtrim_any A' c' o _ hlim k HL.out.symm (by omega) hcc).mono ?_; rintro e w' ⟨rfl, rfl⟩)
      go_ret
      exact ret_trim hlim hdo HL.out.symm HR.out hcc hnew hup

theorem u32s_replicate (n : Nat) : List.replicate n (Value.int .u32 0) = u32s (List.replicate n 0) := by simp [u32s]
theorem dig_replicate (n : Nat) : Dig (List.replicate n 0) := fun x hx => by
  have := (List.mem_replicate.1 hx).2
  omega

set_option maxRecDepth 100000 in
set_option maxHeartbeats 1000000 in
theorem rtimes_any (A : Option Addr) (ca a q u : Nat) (w : World) (hA : Lim w A (lim a)) (n : Nat) (Hn : Hid (n = (lim a).length)) (hn : n ≤ 100000) (hu : u ≤ 100000) (hq : q < 1000000000) :
    Calls Tryz.prog 114 #[.slice A n ca, .int .u64 q, .int .i64 u] w (RetLim w (bas u * (a * q))) := by
  obtain ⟨i0, hi, hz0, hz1, hz2⟩ := info_parts Tryz.info91
  go_enter Tryz.func114, Tryz.ntmps114
  go_wp2_with (at_make; refine wpList_make_full _ rfl _ _ 22 rfl w.heap.size 91 i0 (.int .u32 0) 1 Tryz.underlying22 hi hz0 hz1 _ _ _ _ u rfl rfl rfl rfl (by rw [hz2]; omega) (by unfold maxLen; omega) (Nat.le_refl _) ?_; intro w0 hown0 hgrow0)
  have hup0 : Up w w0 := (Up.refl w).grown hgrow0 (fun k hk => by cases hk)
  have hown00 : w0.ownsRow w.heap.size 91 1 (.slice (some ⟨w.heap.size, 0, none⟩) u u) u (u32s (List.replicate u 0)) := by
    rw [Nat.mul_one, show (Value.int .u32 0).cells = #[.int .u32 0] from rfl, toList_madeCells_one, u32s_replicate] at hown0
    exact hown0
  clear hown0
  go_wp2
  go_loopw [7, 8, 9] (fun v cv i wr => ∃ (k c : Nat) (o : List Nat), k ≤ n + 1 ∧ i = .int .i64 k ∧ cv = .int .u64 c ∧ wr.ownsRow w.heap.size 91 1 v (u + k) (u32s o) ∧ o.length = u + k ∧ c < 1000000000 ∧ (n < k → c = 0) ∧ Dig o ∧
      val o + bas (u + k) * c = bas u * (val ((lim a).take k) * q) ∧ Up w wr) (fun _ _ i _ => (n + 1 - (intOf i).toNat))
  case atStart => exact ⟨0, 0, List.replicate u 0, by omega, rfl, rfl, hown00, by simp, by omega, by omega, dig_replicate u, by simp [val, val_replicate], hup0⟩
  case round =>
    clear hown00 hup0
    obtain ⟨k, c, o, hk, rfl, rfl, hown, hlen, hc, hcz, hdo, hval, hup⟩ := hrel
    have HV := Lib.hid hval
    have HL := Lib.hid hlen
    have HZ := hide hcz
    clear hval hlen hcz
    by_cases hgo : k < n ∨ 0 < c
    · have hkn : k ≤ n := by
        rcases Nat.lt_or_ge n k with h | h
        · have := HZ.out h; omega
        · exact h
      have hx := dig_getD (dig_lim a) k
      have HX0 : Hid (n ≤ k → (lim a).getD k 0 = 0) := fun h => by simp [List.getD, List.getElem?_eq_none (show (lim a).length ≤ k by rw [← Hn.out]; exact h)]
      obtain ⟨x, Hx⟩ : ∃ x, Hid (x = (lim a).getD k 0) := ⟨_, rfl⟩
      rw [← Hx.out] at hx HX0
      have HS := hide (times_step (dig_lim a) hq HL.out hc HV.out (s := x * q + c) (by rw [Hx.out]) hdo)
      have hxq : x * q ≤ 999999999 * 999999999 := Nat.mul_le_mul (by omega) (by omega)
      have hxq0 : Hid (n < k + 1 → (x * q + c) / 1000000000 = 0) := fun h => by
        have : x = 0 := HX0.out (by omega)
        rw [this]; omega
      obtain ⟨p, Hp⟩ : ∃ p, Hid (p = x * q) := ⟨_, rfl⟩
      have hxqi : (x : Int) * (q : Int) = (p : Int) := by rw [Hp.out]; simp
      rw [← Hp.out] at HS hxq hxq0
      have hup0 := hup.size
      have hgo2 : k < n ∨ (¬ k < n ∧ 0 < c) := by omega
      clear hgo HX0
      rcases hgo2 with h1 | ⟨h1, h2⟩
      all_goals
        go_wp2_with fail
        refine (limb_any A ca (lim a) _ (hA.up hup) n k x Hn Hx (by omega)).mono ?_
        rintro e w' ⟨rfl, rfl⟩
        go_wp2_with (at_builtin; refine wpList_append_own _ rfl _ _ 22 rfl w.heap.size 91 i0 (.int .u32 0) 1 4 Tryz.underlying22 hi hz0 hz1 hz2 rfl (by decide) _ _ _ rfl (hown.alloc _) ⟨wr.heap.size, 0, none⟩ 1 1 (u32s [(p + c) % 1000000000]) rfl rfl (new_one _ _ _ _ (by omega)) (u32s_one _) (by unfold maxLen; omega) (by omega) (by simp; omega) ?_; intro v' w1 hown1 hgrow1 _)
        go_roundw
        case rel => exact ⟨k + 1, (p + c) / 1000000000, o ++ [(p + c) % 1000000000], by omega, by go_num, by go_num, by rw [u32s_append]; exact hown1, HS.out.1, HS.out.2.1, hxq0.out, HS.out.2.2.1, HS.out.2.2.2, up_append hup hown hgrow1⟩
        case measure => simp [intOf]; omega
    · obtain ⟨A', c', rfl, hcc, hlim, hnew⟩ := own_lim hown
      obtain rfl : c = 0 := by omega
      have hkn : n ≤ k := by omega
      clear hgo
      have HR : Hid (val o = bas u * (a * q)) := by
        have h3 := HV.out
        have h1 := Hn.out
        rw [List.take_of_length_le (by omega), val_lim] at h3
        show val o = _
        omega
      go_wp2_with (go_at_call 113; refine (rtrim_any A' c' o _ hlim (u + k) HL.out.symm (by omega) hcc).mono ?_; rintro e w' ⟨rfl, rfl⟩)
      go_ret
      exact ret_trim hlim hdo HL.out.symm HR.out hcc hnew hup

theorem mul_len {a b n m k : Nat} (hn : n = (lim a).length) (hm : m = (lim b).length) : (lim (a * val ((lim b).take k))).length ≤ n + m := by
  rw [lim_len_le, bas_add]
  have h1 : a < bas n := by rw [hn]; exact lim_lt_bas a
  have h2 : val ((lim b).take k) < bas m := by
    have := val_lt (dig_take (dig_lim b) k)
    have h3 : bas ((lim b).take k).length ≤ bas m := bas_mono (by rw [List.length_take, hm]; omega)
    omega
  rcases Nat.eq_zero_or_pos (val ((lim b).take k)) with h0 | h0
  · rw [h0, Nat.mul_zero]; exact Nat.mul_pos (bas_pos _) (bas_pos _)
  · exact Nat.lt_of_lt_of_le (Nat.mul_lt_mul_of_pos_right h1 h0) (Nat.mul_le_mul_left _ (by omega))

set_option maxRecDepth 100000 in
set_option maxHeartbeats 1000000 in
theorem rmul_any (A B : Option Addr) (ca cb a b : Nat) (w : World) (hA : Lim w A (lim a)) (hB : Lim w B (lim b)) (n m : Nat) (Hn : Hid (n = (lim a).length)) (Hm : Hid (m = (lim b).length)) (hn : n ≤ 10000) (hm : m ≤ 10000) :
    Calls Tryz.prog 109 #[.slice A n ca, .slice B m cb] w (RetLim w (a * b)) := by
  go_enter Tryz.func109, Tryz.ntmps109
  go_wp2
  go_loopw [5, 6] (fun v i wr => ∃ (k l c : Nat) (A' : Option Addr), k ≤ m ∧ i = .int .i64 k ∧ v = .slice A' l c ∧ l ≤ c ∧ l = (lim (a * val ((lim b).take k))).length ∧ Lim wr A' (lim (a * val ((lim b).take k))) ∧ NewB w.heap.size A' ∧ Up w wr) (fun _ i _ => (m - (intOf i).toNat))
  case atStart => exact ⟨0, 0, 0, none, by omega, rfl, rfl, by omega, by simp [val, lim_zero], by simp [val, lim_zero, Lim.nil], NewB.none_ _, Up.refl w⟩
  case round =>
    obtain ⟨k, l, c, A', hk, rfl, rfl, hlc, hl, hlim, hnew, hup⟩ := hrel
    have HL := Lib.hid hl
    clear hl
    have hln : l ≤ 20000 := by rw [HL.out]; have := mul_len (a := a) (b := b) (k := k) Hn.out Hm.out; omega
    by_cases hgo : k < m
    · obtain ⟨ad, rfl, hb, hcell⟩ := (hB.up hup).at_ (k := k) (by rw [← Hm.out]; exact hgo)
      have hx := dig_getD (dig_lim b) k
      obtain ⟨x, Hx⟩ : ∃ x, Hid (x = (lim b).getD k 0) := ⟨_, rfl⟩
      rw [← Hx.out] at hx hcell
      have HT : Hid (a * val ((lim b).take k) + bas k * (a * x) = a * val ((lim b).take (k + 1))) := by
        show _ = _
        rw [val_take_step, ← Hx.out, Nat.mul_add, Nat.mul_left_comm]
      have HTL : Hid ((lim (bas k * (a * x))).length ≤ 20000) := by
        show _ ≤ _
        have h1 : bas k * (a * x) ≤ a * val ((lim b).take (k + 1)) := by have := HT.out; omega
        have := mul_len (a := a) (b := b) (k := k + 1) Hn.out Hm.out
        have := lim_len_mono h1
        omega
      go_wp2_with (go_at_call 114; refine (rtimes_any A ca a x k _ (hA.up hup) n Hn (by omega) (by omega) (by omega)).mono ?_; rintro e w1 ⟨A1, l1, c1, rfl, HL1, hlim1, hc1, _, hup1⟩)
      have hl1 : l1 ≤ 20000 := by rw [HL1.out]; exact HTL.out
      refine (radd_any A' A1 c c1 _ _ _ (hlim.up hup1) hlim1 l l1 HL HL1 (by omega) (by omega)).mono ?_
      rintro e w2 ⟨A2, l2, c2, rfl, HL2, hlim2, hc2, hnew2, hup2⟩
      rw [HT.out] at hlim2 HL2
      go_wp2
      go_roundw
      case rel => exact ⟨k + 1, l2, c2, A2, by omega, by go_num, rfl, hc2, HL2.out, hlim2, hnew2.mono (Nat.le_trans hup.size hup1.size), (hup.trans hup1).trans hup2⟩
      case measure => simp [intOf]; omega
    · obtain rfl : k = m := by omega
      have HE : Hid (a * val ((lim b).take k) = a * b) := by show _ = _; rw [Hm.out, List.take_length, val_lim]
      rw [HE.out] at hlim HL
      go_wp2
      go_ret
      exact ⟨A', l, c, rfl, HL, hlim, hlc, hnew, hup⟩
end Go.Proofs.YtldifgfpecicnaaGreatDoor
/- The reference's division of limbs by bisection. -/
namespace Go.Proofs.YtldifgfpecicnaaGreatDoor
open Go.RowKit

/-- Two new rows of limbs. -/
def RetLim2 (w : World) (q r : Nat) (e : Ending) (w' : World) : Prop :=
  ∃ A n c B m d, e = .returned (.tuple #[.slice A n c, .slice B m d]) ∧ Hid (n = (lim q).length) ∧ Hid (m = (lim r).length) ∧ Lim w' A (lim q) ∧ Lim w' B (lim r) ∧ n ≤ c ∧ m ≤ d ∧ NewB w.heap.size A ∧ NewB w.heap.size B ∧ Up w w'

theorem rtrim_lim (A : Option Addr) (c : Nat) (o : List Nat) (w : World) (h : Lim w A o) (n r : Nat) (hn : o.length = n) (hd : Dig o) (hv : val o = r) (hl : n ≤ 1000000) (hc : n ≤ c) :
    Calls Tryz.prog 113 #[.slice A n c] w fun e w' => (∃ n', e = .returned (.slice A n' c) ∧ Hid (n' = (lim r).length) ∧ Lim w' A (lim r) ∧ n' ≤ c) ∧ w = w' :=
  (rtrim_any A c o w h n hn.symm hl hc).mono fun e w' ⟨he, hw⟩ => by
    subst he
    subst hw
    subst hn
    subst hv
    exact ⟨⟨_, rfl, keep_len hd, by rw [← trim_lim hd]; exact h.take _, Nat.le_trans (keep_le _ _) hc⟩, rfl⟩

set_option maxRecDepth 100000 in
set_option maxHeartbeats 4000000 in
theorem rdiv_any (A B : Option Addr) (ca cb a b : Nat) (w : World) (hA : Lim w A (lim a)) (hB : Lim w B (lim b)) (n m : Nat) (Hn : Hid (n = (lim a).length)) (Hm : Hid (m = (lim b).length)) (hn : n ≤ 10000) (hm : m ≤ 10000) (hb0 : 0 < b) :
    Calls Tryz.prog 85 #[.slice A n ca, .slice B m cb] w (RetLim2 w (a / b) (a % b)) := by
  go_enter Tryz.func85, Tryz.ntmps85
  go_wp2_with (at_make; refine wp_mk rfl _ _ rfl w.heap.size n _ _ _ _ rfl rfl rfl rfl (by omega) (Nat.le_refl _) ?_; intro w0 hown0 hup0 hlt0)
  go_wp2
  go_loopw [7, 8] (fun rv iv wr => ∃ (k : Nat) (j : Int) (r l c : Nat) (A' : Option Addr) (ql : List Nat), k ≤ n ∧ iv = .int .i64 j ∧ j + 1 = k ∧ rv = .slice A' l c ∧ l ≤ c ∧ l = (lim r).length ∧ Lim wr A' (lim r) ∧ NewB (w.heap.size + 1) A' ∧
      Own wr w.heap.size (.slice (some ⟨w.heap.size, 0, none⟩) n n) n ql ∧ Dig ql ∧ (∀ i, i < k → ql.getD i 0 = 0) ∧ r < b ∧ val ((lim a).drop k) = val (ql.drop k) * b + r ∧ Up w wr ∧ w.heap.size < wr.heap.size) (fun _ iv _ => (intOf iv + 1).toNat)
  case atStart =>
    refine ⟨n, _, 0, 0, 0, none, List.replicate n 0, by omega, rfl, by omega, rfl, by omega, by simp [lim_zero], by simp [lim_zero, Lim.nil], NewB.none_ _, hown0, dig_replicate n, (fun i _ => by simp [List.getD, List.getElem?_replicate]; split <;> rfl), hb0, ?_, hup0, hlt0⟩
    rw [List.drop_eq_nil_of_le (by rw [← Hn.out]; omega), List.drop_eq_nil_of_le (by simp)]; simp [val]
  case round =>
    clear hown0 hup0 hlt0
    obtain ⟨k, j, r, l, c, A', ql, hk, rfl, hj, rfl, hlc, hl, hlim, hnew, hown, hdq, hz, hrb, hv, hup, hlt⟩ := hrel
    have HZ := hide hz
    clear hz
    have HL := Lib.hid hl
    have HV := Lib.hid hv
    clear hl hv
    by_cases hpos : 0 < k
    · obtain ⟨k, rfl⟩ : ∃ k', k = k' + 1 := ⟨k - 1, by omega⟩
      obtain rfl : j = (k : Int) := by omega
      clear hj hpos
      obtain ⟨ad, rfl, hb, hcell⟩ := (hA.up hup).at_ (k := k) (by rw [← Hn.out]; omega)
      have hx := dig_getD (dig_lim a) k
      obtain ⟨x, Hx⟩ : ∃ x, Hid (x = (lim a).getD k 0) := ⟨_, rfl⟩
      rw [← Hx.out] at hx hcell
      have hlm : l ≤ 10000 := by
        have := lim_len_mono (Nat.le_of_lt hrb)
        have h1 := HL.out
        have h2 := Hm.out
        omega
      have HAV : Hid (val ((lim a).drop k) = x + 1000000000 * val ((lim a).drop (k + 1))) := by
        show _ = _
        rw [val_drop_step _ (by rw [← Hn.out]; omega), ← Hx.out]
      have hql := hown.len
      have HQL := hide hql
      clear hql
      have hown1 : Own (wr.alloc (.cells #[.int .u32 (x : Int)] 91)) wr.heap.size (.slice (some ⟨wr.heap.size, 0, none⟩) 1 1) 1 [x] := Own.lit wr [x] _ (by omega) (by omega) rfl rfl
      have hlim1 := hlim.up ((Up.refl wr).alloc (.cells #[.int .u32 (x : Int)] 91))
      go_wp2_with (at_builtin; refine wp_app rfl _ _ rfl wr.heap.size (.slice (some ⟨wr.heap.size, 0, none⟩) 1 1) 1 [x] rfl hown1 A' l c (lim r) rfl HL.out.symm hlim1 (by omega) (by simp) ?_; intro v1 w1 hown2 hg1)
      have hup1 : Up wr w1 := ((Up.refl wr).alloc _).grown hg1 (fun k hk => by cases hk; exact Nat.le_refl _)
      obtain ⟨A1, c1, rfl, hc1, hlim2, hnew2⟩ := hown2.lim
      have hd1 : Dig ([x] ++ lim r) := fun y hy => by
        rcases List.mem_append.1 hy with h | h
        · simp at h; omega
        · exact dig_lim r y h
      have hv1 : val ([x] ++ lim r) = x + 1000000000 * r := by simp [val, val_lim]
      refine (rtrim_lim A1 c1 _ _ hlim2 (1 + l) _ hown2.len hd1 hv1 (by omega) hc1).mono ?_
      rintro e w2 ⟨⟨l2, rfl, HL2, hlim3, hc2⟩, rfl⟩
      have hown3 := hown.up hup1
      have hup3 := hup.trans hup1
      have hnew3 : NewB (w.heap.size + 1) A1 := hnew2.mono (by omega)
      have hl2 : l2 ≤ 10001 := by
        have h1 : (lim (x + 1000000000 * r)).length ≤ 1 + l := by
          rw [← hv1, ← hown2.len, lim_len_le]
          exact val_lt hd1
        rw [HL2.out]; omega
      have hlt2 : w.heap.size < w1.heap.size := by have := hup1.size; omega
      clear hown1 hlim1 hown2 hg1 hlim2 hd1 hv1 hup1 hown hup hlim hcell hb hlt hnew hnew2
      obtain ⟨t, Ht⟩ : ∃ t, Hid (t = x + 1000000000 * r) := ⟨_, rfl⟩
      rw [← Ht.out] at hlim3 HL2
      go_wp2_with fail
      refine (rcmp_any A1 B c1 cb t b _ hlim3 (hB.up hup3) l2 m HL2 Hm (by omega) (by omega)).mono ?_
      rintro e w3 ⟨rfl, q3, rfl⟩
      rcases Nat.lt_or_ge t b with htb | htb
      · have hcz : cmpN t b = -1 := cmpN_lt htb
        rw [hcz]
        clear hcz
        go_wp2
        go_roundw
        case rel =>
          refine ⟨k, (k : Int) - 1, t, l2, c1, A1, ql, by omega, rfl, by omega, rfl, hc2, HL2.out, hlim3, hnew3, hown3, hdq, (fun i hi => HZ.out i (by omega)), htb, ?_, hup3.drewN _, hlt2⟩
          rw [HAV.out, HV.out, val_drop_step ql (k := k) (by rw [HQL.out]; omega), HZ.out k (by omega), Ht.out, Nat.zero_add, Nat.mul_add, Nat.mul_assoc]
          omega
        case measure => simp [intOf]
      · have hcz : Hid (¬ cmpN t b < 0) := by show ¬ cmpN t b < 0; unfold cmpN; rw [if_neg (by omega)]; split <;> omega
        have hct : t < 1000000000 * b := by rw [Ht.out]; omega
        have hcz2 : ¬ cmpN t b < 0 := hcz.out
        have HCZ := hcz2
        obtain ⟨z, hz⟩ : ∃ z, z = cmpN t b := ⟨_, rfl⟩
        rw [← hz] at hcz2 ⊢
        clear hcz HCZ hz
        obtain ⟨w4, hw4⟩ : ∃ w4, w4 = w1.drewN q3 := ⟨_, rfl⟩
        have hup4 : Up w w4 := by rw [hw4]; exact hup3.drewN _
        have hlim4 : Lim w4 A1 (lim t) := by rw [hw4]; exact hlim3.up ((Up.refl w1).drewN _)
        have hown4 : Own w4 w.heap.size (.slice (some ⟨w.heap.size, 0, none⟩) n n) n ql := by rw [hw4]; exact hown3.up ((Up.refl w1).drewN _)
        have hlt4 : w.heap.size < w4.heap.size := by have := hup4.size; rw [hw4]; exact hlt2
        rw [← hw4]
        clear hw4 hup3 hlim3 hown3 hlt2
        go_wp2
        go_loopw [9, 10] (fun lo hi wr => ∃ (p h : Nat), lo = .int .u64 p ∧ hi = .int .u64 h ∧ 1 ≤ p ∧ p < h ∧ h ≤ 1000000000 ∧ p * b ≤ t ∧ t < h * b ∧ Up w4 wr) (fun lo hi _ => (intOf hi - intOf lo).toNat)
        case atStart => exact ⟨1, 1000000000, rfl, rfl, by omega, by omega, by omega, by omega, hct, Up.refl _⟩
        case round =>
          obtain ⟨p, h, rfl, rfl, hx1, hxy, hy, hxb, hyb, hup5⟩ := hrel
          have HXB := hide hxb
          have HYB := hide hyb
          clear hxb hyb
          by_cases hgo : 1 < h - p
          · obtain ⟨m2, Hm2⟩ : ∃ m2, Hid (m2 = (p + h) / 2) := ⟨_, rfl⟩
            have hm2 : p < m2 ∧ m2 < h := by have := Hm2.out; omega
            obtain ⟨hm3, hm4⟩ := hm2
            have hmi : ((p : Int) + (h : Int)) / 2 = (m2 : Int) := by rw [Hm2.out]; omega
            have hmb : Hid ((lim (bas 0 * (b * m2))).length ≤ 10001) := by
              show _ ≤ _
              rw [lim_len_le]
              have h1 : b < bas m := by rw [Hm.out]; exact lim_lt_bas b
              have h2 : b * m2 ≤ b * 1000000000 := Nat.mul_le_mul_left _ (by omega)
              have h3 : bas (m + 1) ≤ bas 10001 := bas_mono (by omega)
              have h4 : bas (m + 1) = 1000000000 * bas m := rfl
              have h5 : bas 0 = 1 := rfl
              rw [h5]
              omega
            go_wp2_with (go_at_call 114; refine (rtimes_any B cb b m2 0 _ ((hB.up hup4).up hup5) m Hm (by omega) (by omega) (by omega)).mono ?_; rintro e w6 ⟨A6, l6, c6, rfl, HL6, hlim6, hc6, _, hup6⟩)
            have hl6 : l6 ≤ 10001 := by rw [HL6.out]; exact hmb.out
            refine (rcmp_any A6 A1 c6 c1 _ t _ hlim6 ((hlim4.up hup5).up hup6) l6 l2 HL6 HL2 (by omega) (by omega)).mono ?_
            rintro e w7 ⟨rfl, q7, rfl⟩
            have hbm : bas 0 * (b * m2) = m2 * b := by show 1 * (b * m2) = _; rw [Nat.one_mul, Nat.mul_comm]
            rw [hbm]
            clear hbm
            rcases Nat.lt_or_ge t (m2 * b) with hc | hc
            · have hcg := cmpN_gt hc
              rw [hcg]
              clear hcg
              have HC := hide hc
              clear hc
              go_wp2
              go_roundw
              case rel => exact ⟨p, m2, rfl, by go_num, hx1, by omega, by omega, HXB.out, HC.out, (hup5.trans hup6).drewN _⟩
              case measure => simp [intOf]; omega
            · have hcg : Hid (cmpN (m2 * b) t ≤ 0) := by show cmpN (m2 * b) t ≤ 0; unfold cmpN; split <;> first | omega | (split <;> omega)
              have hcg2 := hcg.out
              obtain ⟨z2, hz2⟩ : ∃ z2, z2 = cmpN (m2 * b) t := ⟨_, rfl⟩
              rw [← hz2] at hcg2 ⊢
              clear hz2 hcg
              have HC := hide hc
              clear hc
              go_wp2
              go_roundw
              case rel => exact ⟨m2, h, by go_num, rfl, by omega, by omega, by omega, HC.out, HYB.out, (hup5.trans hup6).drewN _⟩
              case measure => simp [intOf]; omega
          · obtain rfl : h = p + 1 := by omega
            have hup7 := hup4.trans hup5
            have hown5 := hown4.up hup5
            have hlim5 := hlim4.up hup5
            have hfr := hown5.frozen k
            have hcell5 := hown5.cell (j := k) (by omega)
            have HD := hide (div_step hx hrb (q := p) (by rw [← Ht.out]; exact HXB.out) (by rw [← Ht.out]; exact HYB.out))
            have hpB := HD.out.1
            have hown8 := hown5.set_ k p
            have hup8 : Up w (wr.setCell ⟨w.heap.size, k, none⟩ (.int .u32 (p : Int))) := hup7.setCell (Nat.le_refl _) _
            have hlim8 : Lim (wr.setCell ⟨w.heap.size, k, none⟩ (.int .u32 (p : Int))) A1 (lim t) := hlim5.far hnew3 _
            have hB8 := hB.up hup8
            have hlt8 : w.heap.size < (wr.setCell ⟨w.heap.size, k, none⟩ (.int .u32 (p : Int))).heap.size := by have := hup5.size; simp; omega
            have hmb : Hid ((lim (bas 0 * (b * p))).length ≤ 10001) := by
              show _ ≤ _
              rw [show bas 0 * (b * p) = p * b by show 1 * (b * p) = _; rw [Nat.one_mul, Nat.mul_comm]]
              have := lim_len_mono HXB.out
              have := HL2.out
              omega
            have HBM : Hid (bas 0 * (b * p) = p * b) := by show 1 * (b * p) = _; rw [Nat.one_mul, Nat.mul_comm]
            clear hown4 hlim4 hlt4 hown5 hlim5 hup4 hup5
            go_wp2_with (go_at_call 114; refine (rtimes_any B cb b p 0 _ hB8 m Hm (by omega) (by omega) (by omega)).mono ?_; rintro e w6 ⟨A6, l6, c6, rfl, HL6, hlim6, hc6, _, hup6⟩)
            have hl6 : l6 ≤ 10001 := by rw [HL6.out]; exact hmb.out
            rw [HBM.out] at hlim6 HL6
            refine (rsub_any A1 A6 c1 c6 t (p * b) _ (hlim8.up hup6) hlim6 l2 l6 HL2 HL6 (by omega) HXB.out).mono ?_
            rintro e w7 ⟨A7, l7, c7, rfl, HL7, hlim7, hc7, hnew7, hup7'⟩
            go_wp2
            go_roundw
            case rel =>
              refine ⟨k, (k : Int) - 1, t - p * b, l7, c7, A7, ql.set k p, by omega, rfl, by omega, rfl, hc7, HL7.out, hlim7, hnew7.mono (Nat.le_trans hlt8 hup6.size), (hown8.up hup6).up hup7', dig_set hdq hpB,
                (fun i hi => by have h0 := HZ.out i (by omega); simpa [List.getD, List.getElem?_set, show ¬ k = i by omega] using h0), by rw [Ht.out]; exact HD.out.2, ?_, (hup8.trans hup6).trans hup7', Nat.lt_of_lt_of_le hlt8 (Nat.le_trans hup6.size hup7'.size)⟩
              rw [HAV.out, val_drop_set ql (by rw [HQL.out]; omega)]
              exact div_keep (by rw [Ht.out]) (by rw [← Ht.out]; exact HXB.out) HV.out
            case measure => simp [intOf]
    · obtain rfl : k = 0 := by omega
      obtain rfl : j = -1 := by omega
      obtain ⟨A1, c1, he1, hc1, hlim1, hnew1⟩ := hown.lim
      cases he1
      have HE := hide (div_end (a := a) (b := b) (q := val ql) (r := r) (by have := HV.out; simp only [List.drop_zero, val_lim] at this; exact this) hrb)
      go_wp2_with (go_at_call 113; refine (rtrim_lim _ n ql _ hlim1 n (a / b) hown.len hdq HE.out.1 (by omega) (Nat.le_refl _)).mono ?_; rintro e w2 ⟨⟨l2, rfl, HL2, hlim3, hc2⟩, rfl⟩)
      go_ret2
      refine ⟨_, l2, _, A', l, c, rfl, HL2, ?_, hlim3, ?_, hc2, hlc, hnew1, hnew.mono (by omega), hup⟩
      · rw [← HE.out.2]; exact HL
      · rw [← HE.out.2]; exact hlim
end Go.Proofs.YtldifgfpecicnaaGreatDoor
/- The reference's Make. -/
namespace Go.Proofs.YtldifgfpecicnaaGreatDoor
open Go.RowKit

set_option maxRecDepth 100000 in
set_option maxHeartbeats 2000000 in
theorem make_any (s : Bool) (A : Option Addr) (c : Nat) (l : List Nat) (w : World) (h : Lim w A l) (hd : Dig l) (n : Nat) (Hn : Hid (n = l.length)) (hn : n ≤ 100000) :
    Calls Tryz.prog 84 #[.bool s, .slice A n c] w (RetIntE w (sgn s (val l))) := by
  have hown0 : Own ((w.alloc (.cells #[.bool false, .slice none 0 0] 24)).alloc (.cells #[] 91)) (w.heap.size + 1) (.slice (some ⟨w.heap.size + 1, 0, none⟩) 0 0) 0 [] := by
    have := Own.lit (w.alloc (.cells #[.bool false, .slice none 0 0] 24)) (base := w.heap.size + 1) (n := 0) [] #[] (by simp) (by omega) rfl rfl
    simpa using this
  have hlim0 := h.up (((Up.refl w).alloc (.cells #[.bool false, .slice none 0 0] 24)).alloc (.cells #[] 91))
  go_enter Tryz.func84, Tryz.ntmps84
  go_wp2_with (at_builtin; refine wp_app rfl _ _ rfl (w.heap.size + 1) (.slice (some ⟨w.heap.size + 1, 0, none⟩) 0 0) 0 [] rfl hown0 A n c l rfl Hn.out.symm hlim0 (by omega) (by simp) ?_; intro v1 w1 hown1 hg1)
  obtain ⟨A1, c1, rfl, hc1, hlim1, hnew1⟩ := hown1.lim
  have hlen1 := hown1.len
  simp only [List.nil_append, Nat.zero_add] at hlim1 hc1 hlen1 ⊢
  have hb1 : Bk w1 w.heap.size 24 #[.bool false, .slice none 0 0] := ((Bk.new w _ _).alloc _).grown hg1 (fun e => by have := Option.some.inj e; simp at this)
  have hup1 : Up w w1 := (((Up.refl w).alloc _).alloc _).grown hg1 (fun k hk => by cases hk; simp)
  clear hown1 hg1 hown0 hlim0
  refine (rtrim_lim A1 c1 l _ hlim1 n _ hlen1 hd rfl (by omega) hc1).mono ?_
  rintro e w2 ⟨⟨n2, rfl, HN2, hlim2, hc2⟩, rfl⟩
  have hn2 : n2 ≤ 100000 := by
    rw [HN2.out]
    have := keep_len hd
    have := keep_le l l.length
    omega
  have hcA := hb1.cell (i := 0) rfl
  have hcB := hb1.cell (i := 1) rfl
  have hfA := hb1.frozen 0
  have hfB := hb1.frozen 1
  have hdg := digs_le _ (dig_lim (val l)).w32
  rw [← HN2.out] at hdg
  by_cases hbig : (val l) < top300
  · have hd3 : Hid (digs (lim (val l)) ≤ 300) := (digs_lim (val l)).2 hbig
    have hB := hide (bnd_ok (z := sgn s (val l)) (by rw [sgn_abs]; exact hbig))
    obtain ⟨d, hdd⟩ : ∃ d, d = digs (lim (val l)) := ⟨_, rfl⟩
    have hd4 : d ≤ 300 := by rw [hdd]; exact hd3.out
    have HD := hide hdd
    clear hdd hd3 hbig hdg
    by_cases hz : n2 = 0
    · have hv0 : Hid (val l = 0) := by have := HN2.out; show val l = 0; rw [← lim_len_zero]; omega
      have hzb : ((n2 : Int) == 0) = true := by rw [hz]; rfl
      have hq := hb1.two (.bool false) (.slice none 0 0)
      clear hz
      go_wp2_with (go_at_call 83; refine (rdigits_any A1 c1 _ _ hlim2 (dig_lim _).w32 n2 HN2 (by omega)).mono ?_; rintro e w' ⟨rfl, rfl⟩; rw [← HD.out])
      refine bodyPost_ret (v := .tuple #[.agg #[.bool false, .slice none 0 0], .int .i64 0]) (by simp [results, Tryz.results84, go_sem, hq.1, hq.2]) rfl ⟨_, by rw [hB.out.2], ?_, hup1.two (Nat.le_refl _) _ _⟩
      rw [hB.out.1, hv0.out, show sgn s 0 = 0 by unfold sgn; split <;> rfl]
      exact IsInt.zero _ _
    · have hv0 : Hid (val l ≠ 0) := by have := HN2.out; show val l ≠ 0; intro e; rw [e, lim_zero] at this; exact hz (by simpa using this)
      have hzb : ((n2 : Int) == 0) = false := by rw [beq_eq_false_iff_ne]; omega
      have hq := hb1.two (.bool s) (.slice A1 n2 c1)
      clear hz
      go_wp2_with (go_at_call 83; refine (rdigits_any A1 c1 _ _ hlim2 (dig_lim _).w32 n2 HN2 (by omega)).mono ?_; rintro e w' ⟨rfl, rfl⟩; rw [← HD.out])
      refine bodyPost_ret (v := .tuple #[.agg #[.bool s, .slice A1 n2 c1], .int .i64 0]) (by simp [results, Tryz.results84, go_sem, hq.1, hq.2]) rfl ⟨_, by rw [hB.out.2], ?_, hup1.two (Nat.le_refl _) _ _⟩
      rw [hB.out.1]
      exact ⟨s, A1, n2, c1, rfl, (sgn_neg hv0.out).symm, by rw [sgn_abs]; exact HN2, by rw [sgn_abs]; exact hlim2.two hnew1 _ _, hc2, hnew1.mono (by omega)⟩
  · have hd3 : Hid (¬ digs (lim (val l)) ≤ 300) := fun h => hbig ((digs_lim (val l)).1 h)
    have hB := hide (bnd_no (z := sgn s (val l)) (by rw [sgn_abs]; exact hbig))
    obtain ⟨d, hdd⟩ : ∃ d, d = digs (lim (val l)) := ⟨_, rfl⟩
    have hd4 : 300 < d := by rw [hdd]; have := hd3.out; omega
    have HD := hide hdd
    rw [← hdd] at hdg
    have hq := hb1.two (.bool false) (.slice none 0 0)
    clear hdd hd3 hbig
    go_wp2_with (go_at_call 83; refine (rdigits_any A1 c1 _ _ hlim2 (dig_lim _).w32 n2 HN2 (by omega)).mono ?_; rintro e w' ⟨rfl, rfl⟩; rw [← HD.out])
    refine bodyPost_ret (v := .tuple #[.agg #[.bool false, .slice none 0 0], .int .i64 3]) (by simp [results, Tryz.results84, go_sem, hq.1, hq.2]) rfl ⟨_, by rw [hB.out.2], ?_, hup1.two (Nat.le_refl _) _ _⟩
    rw [hB.out.1]
    exact IsInt.zero _ _
end Go.Proofs.YtldifgfpecicnaaGreatDoor
/- The reference's Neg, Abs, Add, Sub, Mul. -/
namespace Go.Proofs.YtldifgfpecicnaaGreatDoor
open Go.RowKit

theorem sgn_int (z : Int) (t : Bool) : sgn t z.natAbs = if t = decide (z < 0) then z else -z := by
  unfold sgn
  by_cases h : z < 0 <;> cases t <;> simp [h] <;> omega

set_option maxRecDepth 100000 in
set_option maxHeartbeats 2000000 in
theorem neg_any (B : Nat) (v : Value) (z : Int) (w : World) (hv : IsInt B w v z) (hz : z.natAbs < top300) :
    Calls Tryz.prog 48 #[v] w (RetInt w (-z)) := by
  obtain ⟨s, A, n, c, rfl, Hs, Hn, hl, hc, _⟩ := hv
  have hn : n ≤ 34 := by rw [Hn.out]; exact len_of_top hz
  obtain ⟨w0, hw0⟩ : ∃ w0, w0 = (w.alloc (.cells #[.bool s, .slice A n c] 24)).alloc (.cells #[.bool false, .slice none 0 0] 24) := ⟨_, rfl⟩
  have hb0 : Bk w0 (w.heap.size + 1) 24 #[.bool false, .slice none 0 0] := by
    have := Bk.new (w.alloc (.cells #[.bool s, .slice A n c] 24)) 24 #[.bool false, .slice none 0 0]
    rw [hw0]; simpa using this
  have hup0 : Up w w0 := by rw [hw0]; exact ((Up.refl w).alloc _).alloc _
  have hsg : Hid (sgn (!s) (val (lim z.natAbs)) = -z) := by
    show _ = _
    rw [val_lim, sgn_int, Hs.out]
    simp
  have Hw0 := hide hw0
  clear hw0
  go_enter Tryz.func48, Tryz.ntmps48
  go_wp2_with fail
  rw [← Hw0.out]
  refine (make_any (!s) A c (lim z.natAbs) _ (hl.up hup0) (dig_lim _) n Hn (by omega)).mono ?_
  rintro e w1 ⟨v1, rfl, hv1, hup1⟩
  rw [hsg.out] at hv1 ⊢
  rw [(bnd_ok (z := -z) (by omega)).1] at hv1
  obtain ⟨s1, A1, n1, c1, rfl, Hs1, Hn1, hl1', hc1, hnew1⟩ := hv1
  have hsz0 : w0.heap.size = w.heap.size + 2 := by rw [Hw0.out]; simp
  rw [hsz0] at hnew1
  clear hsz0
  have hb1 := hb0.up hup1
  have hlt := hb1.lt
  have hcA := hb1.cell (i := 0) rfl
  have hcB := hb1.cell (i := 1) rfl
  have hfA := hb1.frozen 0
  have hfB := hb1.frozen 1
  have hup2 := hup0.trans hup1
  have HQ := hide (fun o => ((hb1.two_bk (.bool s1) (.slice A1 n1 c1)).alloc o).cell (i := 0) rfl)
  have HQ2 := hide (fun o => ((hb1.two_bk (.bool s1) (.slice A1 n1 c1)).alloc o).cell (i := 1) rfl)
  clear hb0 hup0 hup1
  go_wp2
  refine bodyPost_ret (v := .agg #[.bool s1, .slice A1 n1 c1]) (by simp [results, Tryz.results48, go_sem, HQ.out, HQ2.out]) rfl ⟨_, rfl, ⟨s1, A1, n1, c1, rfl, Hs1, Hn1, ?_, hc1, hnew1.mono (by omega)⟩, ?_⟩
  · exact (hl1'.two hnew1 _ _).up ((Up.refl _).alloc _)
  · exact (hup2.two (by omega) _ _).alloc _
end Go.Proofs.YtldifgfpecicnaaGreatDoor
/- The reference's Add. -/
namespace Go.Proofs.YtldifgfpecicnaaGreatDoor
open Go.RowKit

set_option maxRecDepth 100000 in
set_option maxHeartbeats 4000000 in
theorem raddI_any (B B' : Nat) (v v' : Value) (x y : Int) (w : World) (hv : IsInt B w v x) (hv' : IsInt B' w v' y) (hx : x.natAbs < top300) (hy : y.natAbs < top300) :
    Calls Tryz.prog 108 #[v, v'] w (RetIntE w (x + y)) := by
  obtain ⟨s, A, n, c, rfl, Hs, Hn, hl, hc, _⟩ := hv
  obtain ⟨t, C, m, d, rfl, Ht, Hm, hm, hd, _⟩ := hv'
  have hn34 : n ≤ 34 := by rw [Hn.out]; exact len_of_top hx
  have hm34 : m ≤ 34 := by rw [Hm.out]; exact len_of_top hy
  obtain ⟨w0, hw0⟩ : ∃ w0, w0 = ((w.alloc (.cells #[.bool s, .slice A n c] 24)).alloc (.cells #[.bool t, .slice C m d] 24)).alloc (.cells #[.bool false, .slice none 0 0] 24) := ⟨_, rfl⟩
  have hb1 : Bk w0 w.heap.size 24 #[.bool s, .slice A n c] := by
    rw [hw0]; exact ((Bk.new w _ _).alloc _).alloc _
  have hb2 : Bk w0 (w.heap.size + 1) 24 #[.bool t, .slice C m d] := by
    have := (Bk.new (w.alloc (.cells #[.bool s, .slice A n c] 24)) 24 #[.bool t, .slice C m d]).alloc (.cells #[.bool false, .slice none 0 0] 24)
    rw [hw0]; simpa using this
  have hb3 : Bk w0 (w.heap.size + 1 + 1) 24 #[.bool false, .slice none 0 0] := by
    have := Bk.new ((w.alloc (.cells #[.bool s, .slice A n c] 24)).alloc (.cells #[.bool t, .slice C m d] 24)) 24 #[.bool false, .slice none 0 0]
    rw [hw0]; simpa using this
  have hup0 : Up w w0 := by rw [hw0]; exact (((Up.refl w).alloc _).alloc _).alloc _
  have hsz0 : w.heap.size + 3 ≤ w0.heap.size := by rw [hw0]; simp
  have Hw0 := hide hw0
  clear hw0
  have e1 := hb1.cell (i := 0) rfl
  have e2 := hb1.cell (i := 1) rfl
  have e3 := hb2.cell (i := 0) rfl
  have e4 := hb2.cell (i := 1) rfl
  by_cases hst : s = t
  · subst hst
    have hsum : Hid (sgn s (x.natAbs + y.natAbs) = x + y) := by
      have h1 := Hs.out
      have h2 := Ht.out
      show _ = _
      unfold sgn
      by_cases hx0 : x < 0 <;> by_cases hy0 : y < 0 <;> simp [hx0, hy0] at h1 h2 <;> subst h1 <;> simp_all <;> omega
    have hlen : Hid ((lim (x.natAbs + y.natAbs)).length ≤ 100) := by
      show _ ≤ _
      rw [lim_len_le]
      have h1 : top300 + top300 ≤ bas 34 := by have : bas 34 = 1000000000 * bas 33 := rfl; unfold top300; omega
      have h2 : bas 34 ≤ bas 100 := bas_mono (by omega)
      omega
    have hss : (s == s) = true := by simp
    go_enter Tryz.func108, Tryz.ntmps108
    go_wp2_with fail
    rw [← Hw0.out]
    have hupA : Up w0 w0.drew := (Up.refl w0).drew
    go_region_held3 (fun w' => w'.cell? ⟨w.heap.size, 0, none⟩ = some (.bool s) ∧ w'.cell? ⟨w.heap.size, 1, none⟩ = some (.slice A n c) ∧ w'.cell? ⟨w.heap.size + 1, 1, none⟩ = some (.slice C m d))
      (first | (exact ⟨hupA.keep e1, hupA.keep e2, hupA.keep e4⟩) | (exact ⟨((hb1.up hupA).far2 (by omega) _ _).cell (i := 0) rfl, ((hb1.up hupA).far2 (by omega) _ _).cell (i := 1) rfl, ((hb2.up hupA).far2 (by omega) _ _).cell (i := 1) rfl⟩))
      (first
        | (go_at_call 134; refine (radd_any A C c d x.natAbs y.natAbs _ (hl.up (hup0.trans hupA)) (hm.up (hup0.trans hupA)) n m Hn Hm (by omega) (by omega)).mono ?_; rintro e w1 ⟨A1, n1, c1, rfl, Hn1, hl1, hc1, hnew1, hup1⟩; replace hupA := hupA.trans hup1)
        | (go_at_call 84; refine (make_any s A1 c1 (lim (x.natAbs + y.natAbs)) _ hl1 (dig_lim _) n1 Hn1 (by rw [Hn1.out]; have := hlen.out; omega)).mono ?_; rintro e w2 ⟨v2, rfl, hv2, hup2⟩; replace hupA := hupA.trans hup2; rw [val_lim, hsum.out] at hv2; rw [val_lim, hsum.out]; obtain ⟨s2, A2, n2, c2, rfl, Hs2, Hn2, hl2, hc2, hnew2⟩ := hv2; have hb4 := hb3.up hupA; have f1 := hb4.cell (i := 0) rfl; have f2 := hb4.cell (i := 1) rfl; have f3 := hb4.frozen 0; have f4 := hb4.frozen 1))
    have hq := hb4.two (.bool s2) (.slice A2 n2 c2)
    have hnew3 : NewB (w.heap.size + 1 + 1 + 1) A2 := hnew2.mono (by have := (Nat.le_trans (hsz0) hup1.size); omega)
    go_wp2
    refine bodyPost_ret (v := .tuple #[.agg #[.bool s2, .slice A2 n2 c2], .int .i64 (bndE (x + y))]) (by simp [results, Tryz.results108, go_sem, hq.1, hq.2]) rfl ⟨_, rfl, ⟨s2, A2, n2, c2, rfl, Hs2, Hn2, hl2.two hnew3 _ _, hc2, hnew3.mono (by omega)⟩, (hup0.trans hupA).two (by omega) _ _⟩
  · have hst2 : (s == t) = false := by simp [hst]
    have hlen : ∀ k, k < top300 → (lim k).length ≤ 100 := fun k hk => Nat.le_trans (len_of_top hk) (by omega)
    rcases Nat.lt_or_ge x.natAbs y.natAbs with hlt | hge
    · have hsum : Hid (sgn t (y.natAbs - x.natAbs) = x + y) := by
        have h1 := Hs.out
        have h2 := Ht.out
        show _ = _
        unfold sgn
        by_cases hx0 : x < 0 <;> by_cases hy0 : y < 0 <;> simp [hx0, hy0] at h1 h2 <;> subst h1 <;> subst h2 <;> simp_all <;> omega
      replace hlen : Hid ((lim (y.natAbs - x.natAbs)).length ≤ 100) := hlen _ (by omega)
      have hc0 := cmpN_lt hlt
      have HLT := hide hlt
      clear hlt hst
      go_enter Tryz.func108, Tryz.ntmps108
      go_wp2_with fail
      rw [← Hw0.out]
      refine (rcmp_any A C c d x.natAbs y.natAbs _ (hl.up hup0) (hm.up hup0) n m Hn Hm (by omega) (by omega)).mono ?_
      rintro e w' ⟨rfl, q, rfl⟩
      rw [hc0]
      clear hc0
      go_wp2_with fail
      have hupA : Up w0 (w0.drewN q).drew := ((Up.refl w0).drewN q).drew
      go_region_held3 (fun w' => w'.cell? ⟨w.heap.size + 1, 0, none⟩ = some (.bool t) ∧ w'.cell? ⟨w.heap.size + 1, 1, none⟩ = some (.slice C m d) ∧ w'.cell? ⟨w.heap.size, 1, none⟩ = some (.slice A n c))
        (first | (exact ⟨hupA.keep e3, hupA.keep e4, hupA.keep e2⟩) | (exact ⟨((hb2.up hupA).far2 (by omega) _ _).cell (i := 0) rfl, ((hb2.up hupA).far2 (by omega) _ _).cell (i := 1) rfl, ((hb1.up hupA).far2 (by omega) _ _).cell (i := 1) rfl⟩))
        (first
          | (go_at_call 115; refine (rsub_any C A d c y.natAbs x.natAbs _ (hm.up (hup0.trans hupA)) (hl.up (hup0.trans hupA)) m n Hm Hn (by omega) (Nat.le_of_lt HLT.out)).mono ?_; rintro e w1 ⟨A1, n1, c1, rfl, Hn1, hl1, hc1, hnew1, hup1⟩; replace hupA := hupA.trans hup1)
          | (go_at_call 84; refine (make_any t A1 c1 (lim (y.natAbs - x.natAbs)) _ hl1 (dig_lim _) n1 Hn1 (by rw [Hn1.out]; have := hlen.out; omega)).mono ?_; rintro e w2 ⟨v2, rfl, hv2, hup2⟩; replace hupA := hupA.trans hup2; rw [val_lim, hsum.out] at hv2; rw [val_lim, hsum.out]; obtain ⟨s2, A2, n2, c2, rfl, Hs2, Hn2, hl2, hc2, hnew2⟩ := hv2; have hb4 := hb3.up hupA; have f1 := hb4.cell (i := 0) rfl; have f2 := hb4.cell (i := 1) rfl; have f3 := hb4.frozen 0; have f4 := hb4.frozen 1))
      have hq := hb4.two (.bool s2) (.slice A2 n2 c2)
      have hnew3 : NewB (w.heap.size + 1 + 1 + 1) A2 := hnew2.mono (by have := (Nat.le_trans (hsz0) hup1.size); omega)
      go_wp2
      refine bodyPost_ret (v := .tuple #[.agg #[.bool s2, .slice A2 n2 c2], .int .i64 (bndE (x + y))]) (by simp [results, Tryz.results108, go_sem, hq.1, hq.2]) rfl ⟨_, rfl, ⟨s2, A2, n2, c2, rfl, Hs2, Hn2, hl2.two hnew3 _ _, hc2, hnew3.mono (by omega)⟩, (hup0.trans hupA).two (by omega) _ _⟩
    · have hsum : Hid (sgn s (x.natAbs - y.natAbs) = x + y) := by
        have h1 := Hs.out
        have h2 := Ht.out
        show _ = _
        unfold sgn
        by_cases hx0 : x < 0 <;> by_cases hy0 : y < 0 <;> simp [hx0, hy0] at h1 h2 <;> subst h1 <;> subst h2 <;> simp_all <;> omega
      replace hlen : Hid ((lim (x.natAbs - y.natAbs)).length ≤ 100) := hlen _ (by omega)
      have hc0 : ¬ cmpN x.natAbs y.natAbs < 0 := by unfold cmpN; rw [if_neg (by omega)]; split <;> omega
      obtain ⟨z, hz⟩ : ∃ z, z = cmpN x.natAbs y.natAbs := ⟨_, rfl⟩
      rw [← hz] at hc0
      have HZ := hide hz
      have HGE := hide hge
      clear hge hst hz
      go_enter Tryz.func108, Tryz.ntmps108
      go_wp2_with fail
      rw [← Hw0.out]
      refine (rcmp_any A C c d x.natAbs y.natAbs _ (hl.up hup0) (hm.up hup0) n m Hn Hm (by omega) (by omega)).mono ?_
      rintro e w' ⟨rfl, q, rfl⟩
      rw [← HZ.out]
      go_wp2_with fail
      have hupA : Up w0 (w0.drewN q).drew := ((Up.refl w0).drewN q).drew
      go_region_held3 (fun w' => w'.cell? ⟨w.heap.size, 0, none⟩ = some (.bool s) ∧ w'.cell? ⟨w.heap.size, 1, none⟩ = some (.slice A n c) ∧ w'.cell? ⟨w.heap.size + 1, 1, none⟩ = some (.slice C m d))
        (first | (exact ⟨hupA.keep e1, hupA.keep e2, hupA.keep e4⟩) | (exact ⟨((hb1.up hupA).far2 (by omega) _ _).cell (i := 0) rfl, ((hb1.up hupA).far2 (by omega) _ _).cell (i := 1) rfl, ((hb2.up hupA).far2 (by omega) _ _).cell (i := 1) rfl⟩))
        (first
          | (go_at_call 115; refine (rsub_any A C c d x.natAbs y.natAbs _ (hl.up (hup0.trans hupA)) (hm.up (hup0.trans hupA)) n m Hn Hm (by omega) HGE.out).mono ?_; rintro e w1 ⟨A1, n1, c1, rfl, Hn1, hl1, hc1, hnew1, hup1⟩; replace hupA := hupA.trans hup1)
          | (go_at_call 84; refine (make_any s A1 c1 (lim (x.natAbs - y.natAbs)) _ hl1 (dig_lim _) n1 Hn1 (by rw [Hn1.out]; have := hlen.out; omega)).mono ?_; rintro e w2 ⟨v2, rfl, hv2, hup2⟩; replace hupA := hupA.trans hup2; rw [val_lim, hsum.out] at hv2; rw [val_lim, hsum.out]; obtain ⟨s2, A2, n2, c2, rfl, Hs2, Hn2, hl2, hc2, hnew2⟩ := hv2; have hb4 := hb3.up hupA; have f1 := hb4.cell (i := 0) rfl; have f2 := hb4.cell (i := 1) rfl; have f3 := hb4.frozen 0; have f4 := hb4.frozen 1))
      have hq := hb4.two (.bool s2) (.slice A2 n2 c2)
      have hnew3 : NewB (w.heap.size + 1 + 1 + 1) A2 := hnew2.mono (by have := (Nat.le_trans (hsz0) hup1.size); omega)
      go_wp2
      refine bodyPost_ret (v := .tuple #[.agg #[.bool s2, .slice A2 n2 c2], .int .i64 (bndE (x + y))]) (by simp [results, Tryz.results108, go_sem, hq.1, hq.2]) rfl ⟨_, rfl, ⟨s2, A2, n2, c2, rfl, Hs2, Hn2, hl2.two hnew3 _ _, hc2, hnew3.mono (by omega)⟩, (hup0.trans hupA).two (by omega) _ _⟩
end Go.Proofs.YtldifgfpecicnaaGreatDoor
/- The reference's Sub, Mul, Abs. -/
namespace Go.Proofs.YtldifgfpecicnaaGreatDoor
open Go.RowKit
theorem sgn_mul {s t : Bool} {x y : Int} (Hs : Hid (s = decide (x < 0))) (Ht : Hid (t = decide (y < 0))) : sgn (s != t) (x.natAbs * y.natAbs) = x * y := by
  have h1 := Hs.out
  have h2 := Ht.out
  have e : ∀ z : Int, z = if decide (z < 0) then -(z.natAbs : Int) else z.natAbs := fun z => by by_cases h : z < 0 <;> simp [h] <;> omega
  have ex := e x
  have ey := e y
  rw [← h1] at ex
  rw [← h2] at ey
  unfold sgn
  obtain ⟨p, hp⟩ : ∃ p, p = x.natAbs := ⟨_, rfl⟩
  obtain ⟨q, hq⟩ : ∃ q, q = y.natAbs := ⟨_, rfl⟩
  rw [← hp] at ex ⊢
  rw [← hq] at ey ⊢
  rw [ex, ey]
  cases s <;> cases t <;> simp [Int.neg_mul, Int.mul_neg]
theorem mul_small {x y : Nat} (hx : x < top300) (hy : y < top300) : (lim (x * y)).length ≤ 100 := by
  rw [lim_len_le]
  have h1 : top300 ≤ bas 34 := by have : bas 34 = 1000000000 * bas 33 := rfl; unfold top300; omega
  have h2 : x * y ≤ bas 34 * bas 34 := Nat.mul_le_mul (by omega) (by omega)
  rw [← bas_add] at h2
  have h3 : bas 69 ≤ bas 100 := bas_mono (by omega)
  have h4 : bas 69 = 1000000000 * bas 68 := rfl
  have h5 := bas_pos 68
  have h6 : bas (34 + 34) = bas 68 := rfl
  omega

set_option maxRecDepth 100000 in
set_option maxHeartbeats 4000000 in
theorem rmulI_any (B B' : Nat) (v v' : Value) (x y : Int) (w : World) (hv : IsInt B w v x) (hv' : IsInt B' w v' y) (hx : x.natAbs < top300) (hy : y.natAbs < top300) :
    Calls Tryz.prog 73 #[v, v'] w (RetIntE w (x * y)) := by
  obtain ⟨s, A, n, c, rfl, Hs, Hn, hl, hc, _⟩ := hv
  obtain ⟨t, C, m, d, rfl, Ht, Hm, hm, hd, _⟩ := hv'
  have hn34 : n ≤ 34 := by rw [Hn.out]; exact len_of_top hx
  have hm34 : m ≤ 34 := by rw [Hm.out]; exact len_of_top hy
  obtain ⟨w0, hw0⟩ : ∃ w0, w0 = (((w.alloc (.cells #[.bool s, .slice A n c] 24)).alloc (.cells #[.bool t, .slice C m d] 24)).alloc (.cells #[.bool false, .slice none 0 0] 24)) := ⟨_, rfl⟩
  have hb1 : Bk w0 (w.heap.size) 24 #[.bool s, .slice A n c] := by
    have := ((Bk.new w 24 #[.bool s, .slice A n c]).alloc (.cells #[.bool t, .slice C m d] 24)).alloc (.cells #[.bool false, .slice none 0 0] 24)
    rw [hw0]; simpa using this
  have hb2 : Bk w0 (w.heap.size + 1) 24 #[.bool t, .slice C m d] := by
    have := (Bk.new (w.alloc (.cells #[.bool s, .slice A n c] 24)) 24 #[.bool t, .slice C m d]).alloc (.cells #[.bool false, .slice none 0 0] 24)
    rw [hw0]; simpa using this
  have hb3 : Bk w0 (w.heap.size + 1 + 1) 24 #[.bool false, .slice none 0 0] := by
    have := Bk.new ((w.alloc (.cells #[.bool s, .slice A n c] 24)).alloc (.cells #[.bool t, .slice C m d] 24)) 24 #[.bool false, .slice none 0 0]
    rw [hw0]; simpa using this
  have hup0 : Up w w0 := by rw [hw0]; exact (((Up.refl w).alloc _).alloc _).alloc _
  have hsz0 : w.heap.size + 3 ≤ w0.heap.size := by rw [hw0]; simp
  have Hw0 := hide hw0
  clear hw0
  have e1a := hb1.cell (i := 0) rfl
  have e1b := hb1.cell (i := 1) rfl
  have e2a := hb2.cell (i := 0) rfl
  have e2b := hb2.cell (i := 1) rfl
  have e3a := hb3.cell (i := 0) rfl
  have e3b := hb3.cell (i := 1) rfl
  have hsum := hide (sgn_mul Hs Ht)
  have hlen := hide (mul_small hx hy)
  go_enter Tryz.func73, Tryz.ntmps73
  go_wp2_with fail
  rw [← Hw0.out]
  have hupA : Up w0 w0.drew := (Up.refl w0).drew
  go_region_held3 (fun w' => w'.cell? ⟨w.heap.size, 0, none⟩ = some (.bool s) ∧ w'.cell? ⟨w.heap.size, 1, none⟩ = some (.slice A n c) ∧ w'.cell? ⟨w.heap.size + 1, 0, none⟩ = some (.bool t) ∧ w'.cell? ⟨w.heap.size + 1, 1, none⟩ = some (.slice C m d))
    (first | (exact ⟨hupA.keep e1a, hupA.keep e1b, hupA.keep e2a, hupA.keep e2b⟩) | (exact ⟨((hb1.up hupA).far2 (by omega) _ _).cell (i := 0) rfl, ((hb1.up hupA).far2 (by omega) _ _).cell (i := 1) rfl, ((hb2.up hupA).far2 (by omega) _ _).cell (i := 0) rfl, ((hb2.up hupA).far2 (by omega) _ _).cell (i := 1) rfl⟩))
    (first
      | (go_at_call 109; refine (rmul_any A C c d x.natAbs y.natAbs _ (hl.up (hup0.trans hupA)) (hm.up (hup0.trans hupA)) n m Hn Hm (by omega) (by omega)).mono ?_; rintro e w1 ⟨A1, n1, c1, rfl, Hn1, hl1, hc1, hnew1, hup1⟩; replace hupA := hupA.trans hup1)
      | (go_at_call 84; refine (make_any (s != t) A1 c1 (lim (x.natAbs * y.natAbs)) _ hl1 (dig_lim _) n1 Hn1 (by rw [Hn1.out]; have := hlen.out; omega)).mono ?_; rintro e w2 ⟨v2, rfl, hv2, hup2⟩; replace hupA := hupA.trans hup2; rw [val_lim, hsum.out] at hv2; rw [val_lim, hsum.out]; obtain ⟨s2, A2, n2, c2, rfl, Hs2, Hn2, hl2, hc2, hnew2⟩ := hv2; have hb4 := hb3.up hupA; have f1 := hb4.cell (i := 0) rfl; have f2 := hb4.cell (i := 1) rfl; have f3 := hb4.frozen 0; have f4 := hb4.frozen 1))
  have hq := hb4.two (.bool s2) (.slice A2 n2 c2)
  have hnew3 : NewB (w.heap.size + 1 + 1 + 1) A2 := hnew2.mono (by have := Nat.le_trans hsz0 hup1.size; omega)
  go_wp2
  refine bodyPost_ret (v := .tuple #[.agg #[.bool s2, .slice A2 n2 c2], .int .i64 (bndE (x * y))]) (by simp [results, Tryz.results73, go_sem, hq.1, hq.2]) rfl ⟨_, rfl, ⟨s2, A2, n2, c2, rfl, Hs2, Hn2, hl2.two hnew3 _ _, hc2, hnew3.mono (by omega)⟩, (hup0.trans hupA).two (by omega) _ _⟩

set_option maxRecDepth 100000 in
set_option maxHeartbeats 2000000 in
theorem abs_any (B : Nat) (v : Value) (x : Int) (w : World) (hv : IsInt B w v x) (hx : x.natAbs < top300) :
    Calls Tryz.prog 56 #[v] w (RetInt w x.natAbs) := by
  obtain ⟨s, A, n, c, rfl, Hs, Hn, hl, hc, _⟩ := hv
  have hn34 : n ≤ 34 := by rw [Hn.out]; exact len_of_top hx
  obtain ⟨w0, hw0⟩ : ∃ w0, w0 = ((w.alloc (.cells #[.bool s, .slice A n c] 24)).alloc (.cells #[.bool false, .slice none 0 0] 24)) := ⟨_, rfl⟩
  have hb1 : Bk w0 (w.heap.size) 24 #[.bool s, .slice A n c] := by
    have := (Bk.new w 24 #[.bool s, .slice A n c]).alloc (.cells #[.bool false, .slice none 0 0] 24)
    rw [hw0]; simpa using this
  have hb2 : Bk w0 (w.heap.size + 1) 24 #[.bool false, .slice none 0 0] := by
    have := Bk.new (w.alloc (.cells #[.bool s, .slice A n c] 24)) 24 #[.bool false, .slice none 0 0]
    rw [hw0]; simpa using this
  have hup0 : Up w w0 := by rw [hw0]; exact ((Up.refl w).alloc _).alloc _
  have hsz0 : w.heap.size + 2 ≤ w0.heap.size := by rw [hw0]; simp
  have Hw0 := hide hw0
  clear hw0
  have e1a := hb1.cell (i := 0) rfl
  have e1b := hb1.cell (i := 1) rfl
  have e2a := hb2.cell (i := 0) rfl
  have e2b := hb2.cell (i := 1) rfl
  have hsg : Hid (sgn false (val (lim x.natAbs)) = (x.natAbs : Int)) := by show _ = _; rw [val_lim]; rfl
  go_enter Tryz.func56, Tryz.ntmps56
  go_wp2_with fail
  rw [← Hw0.out]
  refine (make_any false A c (lim x.natAbs) _ (hl.up hup0) (dig_lim _) n Hn (by omega)).mono ?_
  rintro e w1 ⟨v1, rfl, hv1, hup1⟩
  rw [hsg.out] at hv1 ⊢
  rw [(bnd_ok (z := (x.natAbs : Int)) (by omega)).1] at hv1
  obtain ⟨s1, A1, n1, c1, rfl, Hs1, Hn1, hl1', hc1, hnew1⟩ := hv1
  have hnew2 : NewB (w.heap.size + 1 + 1) A1 := hnew1.mono (by omega)
  have hb4 := hb2.up hup1
  have hlt := hb4.lt
  have f1 := hb4.cell (i := 0) rfl
  have f2 := hb4.cell (i := 1) rfl
  have f3 := hb4.frozen 0
  have f4 := hb4.frozen 1
  have hup2 := hup0.trans hup1
  have HQ := hide (fun o => ((hb4.two_bk (.bool s1) (.slice A1 n1 c1)).alloc o).cell (i := 0) rfl)
  have HQ2 := hide (fun o => ((hb4.two_bk (.bool s1) (.slice A1 n1 c1)).alloc o).cell (i := 1) rfl)
  clear hb1 hb2 e1a e1b e2a e2b
  go_wp2
  refine bodyPost_ret (v := .agg #[.bool s1, .slice A1 n1 c1]) (by simp [results, Tryz.results56, go_sem, HQ.out, HQ2.out]) rfl ⟨_, rfl, ⟨s1, A1, n1, c1, rfl, Hs1, Hn1, (hl1'.two hnew2 _ _).up ((Up.refl _).alloc _), hc1, hnew2.mono (by omega)⟩, (hup2.two (by omega) _ _).alloc _⟩

end Go.Proofs.YtldifgfpecicnaaGreatDoor
/- The reference's Cmp, Gcd. -/
namespace Go.Proofs.YtldifgfpecicnaaGreatDoor
open Go.RowKit

/-- A sign by a flag and a number of limbs. -/
def sgV (s : Bool) (n : Nat) : Int := if n = 0 then 0 else if s then -1 else 1
theorem rsignV_any (s : Bool) (A : Option Addr) (c n : Nat) (w : World) (hn : n ≤ 1000000) :
    Calls Tryz.prog 37 #[.agg #[.bool s, .slice A n c]] w fun e w' => e = .returned (.int .i64 (sgV s n)) ∧ Up w w' := rsign_any s A c n w hn
theorem sgV_int {s : Bool} {n : Nat} {x : Int} (Hs : Hid (s = decide (x < 0))) (Hn : Hid (n = (lim x.natAbs).length)) : sgV s n = x.sign := by
  have h1 := Hs.out
  have h2 := Hn.out
  unfold sgV
  by_cases h0 : x = 0
  · subst h0; simp [lim_zero] at h2; rw [if_pos h2]; rfl
  · have hn : n ≠ 0 := by rw [h2]; intro e; rw [lim_len_zero] at e; omega
    rw [if_neg hn, h1]
    by_cases h : x < 0
    · simp [h, Int.sign_eq_neg_one_of_neg h]
    · simp [h, Int.sign_eq_one_of_pos (show 0 < x by omega)]
/-- -1, 0 or 1 as x is less than, equal to or greater than y. -/
def cmpZ (x y : Int) : Int := if x < y then -1 else if y < x then 1 else 0

set_option maxRecDepth 100000 in
set_option maxHeartbeats 4000000 in
theorem rcmpI_any (B B' : Nat) (v v' : Value) (x y : Int) (w : World) (hv : IsInt B w v x) (hv' : IsInt B' w v' y) (hx : x.natAbs < top300) (hy : y.natAbs < top300) :
    Calls Tryz.prog 75 #[v, v'] w fun e w' => e = .returned (.int .i64 (cmpZ x y)) ∧ Up w w' := by
  obtain ⟨s, A, n, c, rfl, Hs, Hn, hl, hc, _⟩ := hv
  obtain ⟨t, C, m, d, rfl, Ht, Hm, hm, hd, _⟩ := hv'
  have hn34 : n ≤ 34 := by rw [Hn.out]; exact len_of_top hx
  have hm34 : m ≤ 34 := by rw [Hm.out]; exact len_of_top hy
  obtain ⟨w0, hw0⟩ : ∃ w0, w0 = ((w.alloc (.cells #[.bool s, .slice A n c] 24)).alloc (.cells #[.bool t, .slice C m d] 24)) := ⟨_, rfl⟩
  have hb1 : Bk w0 (w.heap.size) 24 #[.bool s, .slice A n c] := by
    have := (Bk.new w 24 #[.bool s, .slice A n c]).alloc (.cells #[.bool t, .slice C m d] 24)
    rw [hw0]; simpa using this
  have hb2 : Bk w0 (w.heap.size + 1) 24 #[.bool t, .slice C m d] := by
    have := Bk.new (w.alloc (.cells #[.bool s, .slice A n c] 24)) 24 #[.bool t, .slice C m d]
    rw [hw0]; simpa using this
  have hup0 : Up w w0 := by rw [hw0]; exact ((Up.refl w).alloc _).alloc _
  have hsz0 : w.heap.size + 2 ≤ w0.heap.size := by rw [hw0]; simp
  have Hw0 := hide hw0
  clear hw0
  have e1a := hb1.cell (i := 0) rfl
  have e1b := hb1.cell (i := 1) rfl
  have e2a := hb2.cell (i := 0) rfl
  have e2b := hb2.cell (i := 1) rfl
  have HX := hide (sgV_int Hs Hn)
  have HY := hide (sgV_int Ht Hm)
  by_cases hne : x.sign = y.sign
  · have hq : (sgV s n != sgV t m) = false := by rw [HX.out, HY.out, hne]; simp
    obtain ⟨k, hk⟩ : ∃ k, k = cmpN x.natAbs y.natAbs := ⟨_, rfl⟩
    have HK := hide hk
    have HR : Hid (sgV s n * k = cmpZ x y ∧ (sgV s n = -1 ∨ sgV s n = 0 ∨ sgV s n = 1) ∧ (k = -1 ∨ k = 0 ∨ k = 1)) := by
      show _ ∧ _ ∧ _
      rw [HX.out, hk]
      have h3 : cmpN x.natAbs y.natAbs = -1 ∨ cmpN x.natAbs y.natAbs = 0 ∨ cmpN x.natAbs y.natAbs = 1 := by unfold cmpN; (repeat' split) <;> simp
      rcases Int.lt_trichotomy x 0 with h | h | h
      · have hy0 : y < 0 := by rw [Int.sign_eq_neg_one_of_neg h] at hne; exact Int.neg_of_sign_eq_neg_one hne.symm
        rw [Int.sign_eq_neg_one_of_neg h]
        refine ⟨?_, by simp, h3⟩
        unfold cmpZ cmpN
        by_cases h4 : x < y
        · rw [if_pos h4, if_neg (by omega), if_pos (by omega)]; rfl
        · by_cases h5 : y < x
          · rw [if_neg h4, if_pos h5, if_pos (by omega)]; rfl
          · rw [if_neg h4, if_neg h5, if_neg (by omega), if_neg (by omega)]; rfl
      · subst h
        have hy0 : y = 0 := by simp at hne; exact Int.sign_eq_zero_iff_zero.1 hne.symm
        subst hy0
        exact ⟨rfl, by simp, h3⟩
      · have hy0 : 0 < y := by rw [Int.sign_eq_one_of_pos h] at hne; exact Int.pos_of_sign_eq_one hne.symm
        rw [Int.sign_eq_one_of_pos h]
        refine ⟨?_, by simp, h3⟩
        unfold cmpZ cmpN
        by_cases h4 : x < y
        · rw [if_pos h4, if_pos (by omega)]; rfl
        · by_cases h5 : y < x
          · rw [if_neg h4, if_pos h5, if_neg (by omega), if_pos (by omega)]; rfl
          · rw [if_neg h4, if_neg h5, if_neg (by omega), if_neg (by omega)]; rfl
    clear hk hne
    obtain ⟨r, hr⟩ : ∃ r, r = cmpZ x y := ⟨_, rfl⟩
    rw [← hr] at HR ⊢
    clear hr
    have hb1' := HR.out.2.1
    have hb2' := HR.out.2.2
    have hw : IntKind.i64.wrap (sgV s n * k) = r := by
      rw [← HR.out.1]
      rcases hb1' with h | h | h <;> rcases hb2' with h' | h' | h' <;> rw [h, h'] <;> rfl
    clear hb1' hb2'
    go_enter Tryz.func75, Tryz.ntmps75
    go_wp2_with fail
    rw [← Hw0.out]
    have hupA : Up w0 w0.drew := (Up.refl w0).drew
    go_region_held3 (fun w' => w'.cell? ⟨w.heap.size, 0, none⟩ = some (.bool s) ∧ w'.cell? ⟨w.heap.size, 1, none⟩ = some (.slice A n c) ∧ w'.cell? ⟨w.heap.size + 1, 0, none⟩ = some (.bool t) ∧ w'.cell? ⟨w.heap.size + 1, 1, none⟩ = some (.slice C m d))
      (first | (exact ⟨hupA.keep e1a, hupA.keep e1b, hupA.keep e2a, hupA.keep e2b⟩))
      (first | (go_at_call 37; refine (rsignV_any _ _ _ _ _ (by omega)).mono ?_; rintro e w1 ⟨rfl, hup1⟩; replace hupA := hupA.trans hup1))
    all_goals
      replace hupA := hupA.drew
      go_wp2_with fail
      go_region_held3 (fun w' => w'.cell? ⟨w.heap.size, 0, none⟩ = some (.bool s) ∧ w'.cell? ⟨w.heap.size, 1, none⟩ = some (.slice A n c) ∧ w'.cell? ⟨w.heap.size + 1, 0, none⟩ = some (.bool t) ∧ w'.cell? ⟨w.heap.size + 1, 1, none⟩ = some (.slice C m d))
        (first | (exact ⟨hupA.keep e1a, hupA.keep e1b, hupA.keep e2a, hupA.keep e2b⟩))
        (first | (go_at_call 37; refine (rsignV_any _ _ _ _ _ (by omega)).mono ?_; rintro e w1 ⟨rfl, hup1⟩; replace hupA := hupA.trans hup1) | (go_at_call 110; refine (rcmp_any A C c d x.natAbs y.natAbs _ (hl.up (hup0.trans hupA)) (hm.up (hup0.trans hupA)) n m Hn Hm (by omega) (by omega)).mono ?_; rintro e w1 ⟨rfl, q, rfl⟩; rw [← HK.out]; replace hupA := hupA.drewN q))
    all_goals
      go_wp2
      go_ret
      exact ⟨by rw [← hw]; rfl, hup0.trans hupA⟩
  · have hq : (sgV s n != sgV t m) = true := by rw [HX.out, HY.out, bne_iff_ne]; exact hne
    by_cases hlt : x < y
    · have hq2 : sgV s n < sgV t m := by
        rw [HX.out, HY.out]
        rcases Int.lt_trichotomy x 0 with h | h | h <;> rcases Int.lt_trichotomy y 0 with h' | h' | h' <;> first | omega | (simp_all [Int.sign_eq_neg_one_of_neg, Int.sign_eq_one_of_pos])
      have HR : Hid (cmpZ x y = -1) := by show cmpZ x y = -1; unfold cmpZ; rw [if_pos hlt]
      clear hne hlt
      go_enter Tryz.func75, Tryz.ntmps75
      go_wp2_with fail
      rw [← Hw0.out]
      have hupA : Up w0 w0.drew := (Up.refl w0).drew
      go_region_held3 (fun w' => w'.cell? ⟨w.heap.size, 0, none⟩ = some (.bool s) ∧ w'.cell? ⟨w.heap.size, 1, none⟩ = some (.slice A n c) ∧ w'.cell? ⟨w.heap.size + 1, 0, none⟩ = some (.bool t) ∧ w'.cell? ⟨w.heap.size + 1, 1, none⟩ = some (.slice C m d))
        (first | (exact ⟨hupA.keep e1a, hupA.keep e1b, hupA.keep e2a, hupA.keep e2b⟩))
        (first | (go_at_call 37; refine (rsignV_any _ _ _ _ _ (by omega)).mono ?_; rintro e w1 ⟨rfl, hup1⟩; replace hupA := hupA.trans hup1))
      all_goals
        replace hupA := hupA.drew
        go_wp2_with fail
        go_region_held3 (fun w' => w'.cell? ⟨w.heap.size, 0, none⟩ = some (.bool s) ∧ w'.cell? ⟨w.heap.size, 1, none⟩ = some (.slice A n c) ∧ w'.cell? ⟨w.heap.size + 1, 0, none⟩ = some (.bool t) ∧ w'.cell? ⟨w.heap.size + 1, 1, none⟩ = some (.slice C m d))
          (first | (exact ⟨hupA.keep e1a, hupA.keep e1b, hupA.keep e2a, hupA.keep e2b⟩))
          (first | (go_at_call 37; refine (rsignV_any _ _ _ _ _ (by omega)).mono ?_; rintro e w1 ⟨rfl, hup1⟩; replace hupA := hupA.trans hup1))
      all_goals
        go_wp2
        go_ret
        exact ⟨by rw [HR.out]; rfl, hup0.trans hupA⟩
    · have hgt : y < x := by
        rcases Int.lt_trichotomy x y with h | h | h
        · exact absurd h hlt
        · rw [h] at hne; exact absurd rfl hne
        · exact h
      have hq2 : ¬ sgV s n < sgV t m := by
        rw [HX.out, HY.out]
        rcases Int.lt_trichotomy x 0 with h | h | h <;> rcases Int.lt_trichotomy y 0 with h' | h' | h' <;> first | omega | (simp_all [Int.sign_eq_neg_one_of_neg, Int.sign_eq_one_of_pos])
      have HR : Hid (cmpZ x y = 1) := by show cmpZ x y = 1; unfold cmpZ; rw [if_neg hlt, if_pos hgt]
      clear hne hlt hgt
      go_enter Tryz.func75, Tryz.ntmps75
      go_wp2_with fail
      rw [← Hw0.out]
      have hupA : Up w0 w0.drew := (Up.refl w0).drew
      go_region_held3 (fun w' => w'.cell? ⟨w.heap.size, 0, none⟩ = some (.bool s) ∧ w'.cell? ⟨w.heap.size, 1, none⟩ = some (.slice A n c) ∧ w'.cell? ⟨w.heap.size + 1, 0, none⟩ = some (.bool t) ∧ w'.cell? ⟨w.heap.size + 1, 1, none⟩ = some (.slice C m d))
        (first | (exact ⟨hupA.keep e1a, hupA.keep e1b, hupA.keep e2a, hupA.keep e2b⟩))
        (first | (go_at_call 37; refine (rsignV_any _ _ _ _ _ (by omega)).mono ?_; rintro e w1 ⟨rfl, hup1⟩; replace hupA := hupA.trans hup1))
      all_goals
        replace hupA := hupA.drew
        go_wp2_with fail
        go_region_held3 (fun w' => w'.cell? ⟨w.heap.size, 0, none⟩ = some (.bool s) ∧ w'.cell? ⟨w.heap.size, 1, none⟩ = some (.slice A n c) ∧ w'.cell? ⟨w.heap.size + 1, 0, none⟩ = some (.bool t) ∧ w'.cell? ⟨w.heap.size + 1, 1, none⟩ = some (.slice C m d))
          (first | (exact ⟨hupA.keep e1a, hupA.keep e1b, hupA.keep e2a, hupA.keep e2b⟩))
          (first | (go_at_call 37; refine (rsignV_any _ _ _ _ _ (by omega)).mono ?_; rintro e w1 ⟨rfl, hup1⟩; replace hupA := hupA.trans hup1))
      all_goals
        go_wp2
        go_ret
        exact ⟨by rw [HR.out]; rfl, hup0.trans hupA⟩

end Go.Proofs.YtldifgfpecicnaaGreatDoor
/- The reference's Of. -/
namespace Go.Proofs.YtldifgfpecicnaaGreatDoor
open Go.RowKit

theorem wneg (k : Nat) (h0 : 0 < k) (h : k ≤ 9223372036854775808) : IntKind.u64.wrap (-IntKind.u64.wrap (-(k : Int))) = (k : Int) := by
  rw [IntKind.wrap_u64, IntKind.wrap_u64]; omega
/-- Three limbs of a word. -/
def lim3 (k : Nat) : List Nat := [k % 1000000000, k / 1000000000 % 1000000000, k / 1000000000 / 1000000000]
theorem lim3_val (k : Nat) : val (lim3 k) = k := by simp only [lim3, val]; omega
theorem lim3_dig {k : Nat} (h : k < 18446744073709551616) : Dig (lim3 k) := by
  intro x hx
  simp only [lim3, List.mem_cons, List.not_mem_nil, or_false] at hx
  rcases hx with rfl | rfl | rfl <;> omega
theorem word_top {k : Nat} (h : k < 18446744073709551616) : k < top300 := by
  have h1 : bas 3 ≤ bas 33 := bas_mono (by omega)
  have h2 : bas 3 = 1000000000000000000000000000 := rfl
  unfold top300; omega

set_option maxRecDepth 100000 in
set_option maxHeartbeats 2000000 in
theorem rof_any (z : Int) (k : Nat) (s : Bool) (w : World) (Hz : Hid (z = sgn s k ∧ (k = 0 → s = false))) (hk : k ≤ 9223372036854775808) (hk2 : s = false → k ≤ 9223372036854775807) :
    Calls Tryz.prog 52 #[.int .i64 z] w (RetInt w z) := by
  obtain ⟨w0, hw0⟩ : ∃ w0, w0 = w.alloc (.cells #[.bool false, .slice none 0 0] 24) := ⟨_, rfl⟩
  have hb0 : Bk w0 w.heap.size 24 #[.bool false, .slice none 0 0] := by rw [hw0]; exact Bk.new w _ _
  have hup0 : Up w w0 := by rw [hw0]; exact (Up.refl w).alloc _
  have hsz0 : w0.heap.size = w.heap.size + 1 := by rw [hw0]; simp
  have hown := Own.lit w0 (base := 0) (n := 3) (lim3 k) #[.int .u32 ((k % 1000000000 : Nat) : Int), .int .u32 ((k / 1000000000 % 1000000000 : Nat) : Int), .int .u32 ((k / 1000000000 / 1000000000 : Nat) : Int)] (by omega) (by omega) rfl rfl
  obtain ⟨A, c, hA, hc, hl, _⟩ := hown.lim
  cases hA
  have Hw0 := hide hw0
  clear hw0 hown hc
  have hdig := lim3_dig (k := k) (by omega)
  have key : ∀ (w1 : World) (a b d : Int), a = ((k % 1000000000 : Nat) : Int) → b = ((k / 1000000000 % 1000000000 : Nat) : Int) → d = ((k / 1000000000 / 1000000000 : Nat) : Int) → w1 = w0.alloc (.cells #[.int .u32 a, .int .u32 b, .int .u32 d] 91) →
      Calls Tryz.prog 84 #[.bool s, .slice (some ⟨w0.heap.size, 0, none⟩) 3 3] w1 fun e w2 => ∃ s2 A2 n2 c2, e = .returned (.tuple #[.agg #[.bool s2, .slice A2 n2 c2], .int .i64 0]) ∧ Hid (s2 = decide (z < 0)) ∧ Hid (n2 = (lim z.natAbs).length) ∧ Lim w2 A2 (lim z.natAbs) ∧ n2 ≤ c2 ∧ NewB (w.heap.size + 1) A2 ∧ Up w w2 ∧ Bk w2 w.heap.size 24 #[.bool false, .slice none 0 0] := by
    rintro w1 a b d rfl rfl rfl rfl
    refine (make_any s _ _ (lim3 k) _ hl hdig 3 rfl (by omega)).mono ?_
    rintro e w2 ⟨v2, rfl, hv2, hup2⟩
    rw [lim3_val, ← Hz.out.1] at hv2 ⊢
    have hzt : z.natAbs < top300 := by rw [Hz.out.1, sgn_abs]; exact word_top (by omega)
    rw [(bnd_ok hzt).1] at hv2
    rw [(bnd_ok hzt).2]
    obtain ⟨s2, A2, n2, c2, rfl, Hs2, Hn2, hl2, hc2, hnew2⟩ := hv2
    exact ⟨s2, A2, n2, c2, rfl, Hs2, Hn2, hl2, hc2, hnew2.mono (by simp; omega), (hup0.alloc _).trans hup2, (hb0.alloc _).up hup2⟩
  rw [hsz0] at key
  have KEY := hide key
  clear key hb0 hup0 hl hdig
  have go : ∀ e w2, (∃ s2 A2 n2 c2, e = Ending.returned (.tuple #[.agg #[.bool s2, .slice A2 n2 c2], .int .i64 0]) ∧ Hid (s2 = decide (z < 0)) ∧ Hid (n2 = (lim z.natAbs).length) ∧ Lim w2 A2 (lim z.natAbs) ∧ n2 ≤ c2 ∧ NewB (w.heap.size + 1) A2 ∧ Up w w2 ∧ Bk w2 w.heap.size 24 #[.bool false, .slice none 0 0]) → True := fun _ _ _ => trivial
  clear go
  cases s
  · obtain rfl : z = (k : Int) := by rw [Hz.out.1]; rfl
    have hk3 := hk2 rfl
    clear hk2
    go_enter Tryz.func52, Tryz.ntmps52
    go_wp2_with fail
    refine (KEY.out _ ((k : Int) % 1000000000) ((k : Int) / 1000000000 % 1000000000) ((k : Int) / 1000000000 / 1000000000) (by omega) (by omega) (by omega) (by rw [Hw0.out])).mono ?_
    rintro e w2 ⟨s2, A2, n2, c2, rfl, Hs2, Hn2, hl2, hc2, hnew2, hup2, hb2⟩
    have f1 := hb2.cell (i := 0) rfl
    have f2 := hb2.cell (i := 1) rfl
    have f3 := hb2.frozen 0
    have f4 := hb2.frozen 1
    have f5 := hb2.lt
    have HQ := hide (fun o => ((hb2.two_bk (.bool s2) (.slice A2 n2 c2)).alloc o).cell (i := 0) rfl)
    have HQ2 := hide (fun o => ((hb2.two_bk (.bool s2) (.slice A2 n2 c2)).alloc o).cell (i := 1) rfl)
    go_wp2
    refine bodyPost_ret (v := .agg #[.bool s2, .slice A2 n2 c2]) (by simp [results, Tryz.results52, go_sem, HQ.out, HQ2.out]) rfl ⟨_, rfl, ⟨s2, A2, n2, c2, rfl, Hs2, Hn2, (hl2.two hnew2 _ _).up ((Up.refl _).alloc _), hc2, hnew2.mono (by omega)⟩, (hup2.two (Nat.le_refl _) _ _).alloc _⟩
  · obtain rfl : z = -(k : Int) := by rw [Hz.out.1]; rfl
    have hk0 : 0 < k := Nat.pos_of_ne_zero fun h => by have := Hz.out.2 h; cases this
    have hwn := wneg k hk0 hk
    clear hk2
    go_enter Tryz.func52, Tryz.ntmps52
    go_wp2_with fail
    refine (KEY.out _ ((k : Int) % 1000000000) ((k : Int) / 1000000000 % 1000000000) ((k : Int) / 1000000000 / 1000000000) (by omega) (by omega) (by omega) (by rw [Hw0.out])).mono ?_
    rintro e w2 ⟨s2, A2, n2, c2, rfl, Hs2, Hn2, hl2, hc2, hnew2, hup2, hb2⟩
    have f1 := hb2.cell (i := 0) rfl
    have f2 := hb2.cell (i := 1) rfl
    have f3 := hb2.frozen 0
    have f4 := hb2.frozen 1
    have f5 := hb2.lt
    have HQ := hide (fun o => ((hb2.two_bk (.bool s2) (.slice A2 n2 c2)).alloc o).cell (i := 0) rfl)
    have HQ2 := hide (fun o => ((hb2.two_bk (.bool s2) (.slice A2 n2 c2)).alloc o).cell (i := 1) rfl)
    go_wp2
    refine bodyPost_ret (v := .agg #[.bool s2, .slice A2 n2 c2]) (by simp [results, Tryz.results52, go_sem, HQ.out, HQ2.out]) rfl ⟨_, rfl, ⟨s2, A2, n2, c2, rfl, Hs2, Hn2, (hl2.two hnew2 _ _).up ((Up.refl _).alloc _), hc2, hnew2.mono (by omega)⟩, (hup2.two (Nat.le_refl _) _ _).alloc _⟩
end Go.Proofs.YtldifgfpecicnaaGreatDoor
/- The reference's Gcd, Div. -/
namespace Go.Proofs.YtldifgfpecicnaaGreatDoor
open Go.RowKit

set_option maxRecDepth 100000 in
set_option maxHeartbeats 4000000 in
theorem rgcdI_any (B B' : Nat) (v v' : Value) (x y : Int) (w : World) (hv : IsInt B w v x) (hv' : IsInt B' w v' y) (hx : x.natAbs < top300) (hy : y.natAbs < top300) :
    Calls Tryz.prog 49 #[v, v'] w (RetInt w (Nat.gcd x.natAbs y.natAbs : Nat)) := by
  obtain ⟨s, A, n, c, rfl, Hs, Hn, hl, hc, _⟩ := hv
  obtain ⟨t, C, m, d, rfl, Ht, Hm, hm, hd, _⟩ := hv'
  have hn34 : n ≤ 34 := by rw [Hn.out]; exact len_of_top hx
  have hm34 : m ≤ 34 := by rw [Hm.out]; exact len_of_top hy
  obtain ⟨w0, hw0⟩ : ∃ w0, w0 = (((w.alloc (.cells #[.bool s, .slice A n c] 24)).alloc (.cells #[.bool t, .slice C m d] 24)).alloc (.cells #[.bool false, .slice none 0 0] 24)) := ⟨_, rfl⟩
  have hb1 : Bk w0 (w.heap.size) 24 #[.bool s, .slice A n c] := by
    have := ((Bk.new w 24 #[.bool s, .slice A n c]).alloc (.cells #[.bool t, .slice C m d] 24)).alloc (.cells #[.bool false, .slice none 0 0] 24)
    rw [hw0]; simpa using this
  have hb2 : Bk w0 (w.heap.size + 1) 24 #[.bool t, .slice C m d] := by
    have := (Bk.new (w.alloc (.cells #[.bool s, .slice A n c] 24)) 24 #[.bool t, .slice C m d]).alloc (.cells #[.bool false, .slice none 0 0] 24)
    rw [hw0]; simpa using this
  have hb3 : Bk w0 (w.heap.size + 1 + 1) 24 #[.bool false, .slice none 0 0] := by
    have := Bk.new ((w.alloc (.cells #[.bool s, .slice A n c] 24)).alloc (.cells #[.bool t, .slice C m d] 24)) 24 #[.bool false, .slice none 0 0]
    rw [hw0]; simpa using this
  have hup0 : Up w w0 := by rw [hw0]; exact (((Up.refl w).alloc _).alloc _).alloc _
  have hsz0 : w.heap.size + 3 ≤ w0.heap.size := by rw [hw0]; simp
  have Hw0 := hide hw0
  clear hw0
  have e1a := hb1.cell (i := 0) rfl
  have e1b := hb1.cell (i := 1) rfl
  have e2a := hb2.cell (i := 0) rfl
  have e2b := hb2.cell (i := 1) rfl
  have e3a := hb3.cell (i := 0) rfl
  have e3b := hb3.cell (i := 1) rfl
  go_enter Tryz.func49, Tryz.ntmps49
  go_wp2_with fail
  rw [← Hw0.out]
  go_quiet (fail)
  have hupA : Up w0 (w0.drewN nq) := (Up.refl w0).drewN nq
  go_wp2
  go_loopg [5, 6] y.natAbs (fun g xv yv wr => ∃ (p l k c d : Nat) (X Y : Option Addr), xv = .slice X l c ∧ yv = .slice Y k d ∧ l ≤ c ∧ k ≤ d ∧ l = (lim p).length ∧ k = (lim g).length ∧ Lim wr X (lim p) ∧ Lim wr Y (lim g) ∧ Nat.gcd p g = Nat.gcd x.natAbs y.natAbs ∧ p < top300 ∧ g < top300 ∧ Up w0 wr)
  case atStart => exact ⟨x.natAbs, n, m, c, d, A, C, rfl, rfl, hc, hd, Hn.out, Hm.out, hl.up (hup0.trans hupA), hm.up (hup0.trans hupA), rfl, hx, hy, hupA⟩
  case round =>
    obtain ⟨p, l, k, c, d, X, Y, rfl, rfl, hlc, hkd, hl', hk', hlim1, hlim2, hg, hp, hq, hup⟩ := hrel
    have HL := hide hl'
    have HK := hide hk'
    have HG := hide hg
    clear hl' hk' hg
    have hl34 : l ≤ 34 := by rw [HL.out]; exact len_of_top hp
    have hk34 : k ≤ 34 := by rw [HK.out]; exact len_of_top hq
    by_cases hgo : 0 < k
    · have hg0 : 0 < gk := by
        rcases Nat.eq_zero_or_pos gk with h | h
        · have := HK.out; rw [h, lim_zero] at this; simp at this; omega
        · exact h
      have HM := hide (Nat.mod_lt p hg0)
      go_wp2_with (go_at_call 85; refine (rdiv_any X Y c d p gk _ hlim1 hlim2 l k HL HK (by omega) (by omega) hg0).mono ?_; rintro e w1 ⟨A1, n1, c1, A2, n2, c2, rfl, Hn1, Hn2, hl1, hl2, hc1, hc2, _, _, hup1⟩)
      go_roundg (p % gk)
      case measure => exact HM.out
      case rel =>
        refine ⟨gk, k, n2, d, c2, Y, A2, rfl, rfl, hkd, hc2, HK.out, Hn2.out, hlim2.up hup1, hl2, ?_, hq, by have := HM.out; omega, hup.trans hup1⟩
        rw [← HG.out, Nat.gcd_comm gk, Nat.gcd_comm p, Nat.gcd_rec gk p]
    · obtain rfl : k = 0 := by omega
      have hg0 : gk = 0 := by
        have := HK.out.symm; rw [lim_len_zero] at this; exact this
      have hsg : Hid (sgn false (val (lim p)) = ((Nat.gcd x.natAbs y.natAbs : Nat) : Int)) := by
        show _ = _
        rw [val_lim, ← HG.out, hg0, Nat.gcd_zero_right]; rfl
      have hgt : Hid (((Nat.gcd x.natAbs y.natAbs : Nat) : Int).natAbs < top300) := by
        show _ < _
        rw [← HG.out, hg0, Nat.gcd_zero_right]; simpa using hp
      obtain ⟨z, hz⟩ : ∃ z : Int, z = ((Nat.gcd x.natAbs y.natAbs : Nat) : Int) := ⟨_, rfl⟩
      rw [← hz] at hsg hgt ⊢
      have HZ := hide hz
      clear hz hg0
      go_wp2_with fail
      refine (make_any false X c (lim p) _ hlim1 (dig_lim _) l HL (by omega)).mono ?_
      rintro e w1 ⟨v1, rfl, hv1, hup1⟩
      rw [hsg.out] at hv1 ⊢
      rw [(bnd_ok hgt.out).1] at hv1
      obtain ⟨s1, A1, n1, c1, rfl, Hs1, Hn1, hl1', hc1, hnew1⟩ := hv1
      have hsz1 := hup.size
      have hnew2 : NewB (w.heap.size + 1 + 1 + 1) A1 := hnew1.mono (by omega)
      have hb4 := (hb3.up hup).up hup1
      have hlt := hb4.lt
      have f1 := hb4.cell (i := 0) rfl
      have f2 := hb4.cell (i := 1) rfl
      have f3 := hb4.frozen 0
      have f4 := hb4.frozen 1
      have hup2 := (hup0.trans hup).trans hup1
      have HQ := hide (fun o => ((hb4.two_bk (.bool s1) (.slice A1 n1 c1)).alloc o).cell (i := 0) rfl)
      have HQ2 := hide (fun o => ((hb4.two_bk (.bool s1) (.slice A1 n1 c1)).alloc o).cell (i := 1) rfl)
      clear hb1 hb2 hb3 e1a e1b e2a e2b e3a e3b hupA
      go_wp2
      refine bodyPost_ret (v := .agg #[.bool s1, .slice A1 n1 c1]) (by simp [results, Tryz.results49, go_sem, HQ.out, HQ2.out]) rfl (by rw [← HZ.out]; exact ⟨_, rfl, ⟨s1, A1, n1, c1, rfl, Hs1, Hn1, (hl1'.two hnew2 _ _).up ((Up.refl _).alloc _), hc1, hnew2.mono (by omega)⟩, (hup2.two (by omega) _ _).alloc _⟩)

/-- Two integers and an error. -/
def RetInt2 (w : World) (x y err : Int) (e : Ending) (w' : World) : Prop :=
  ∃ v v', e = .returned (.tuple #[v, v', .int .i64 err]) ∧ IsInt w.heap.size w' v x ∧ IsInt w.heap.size w' v' y ∧ Up w w'
theorem sgn_tdiv {s t : Bool} {x y : Int} (Hs : Hid (s = decide (x < 0))) (Ht : Hid (t = decide (y < 0))) : sgn (s != t) (x.natAbs / y.natAbs) = x.tdiv y := by
  have h1 := Hs.out
  have h2 := Ht.out
  have e : ∀ z : Int, z = if decide (z < 0) then -(z.natAbs : Int) else z.natAbs := fun z => by by_cases h : z < 0 <;> simp [h] <;> omega
  have ex := e x
  have ey := e y
  rw [← h1] at ex
  rw [← h2] at ey
  unfold sgn
  obtain ⟨p, hp⟩ : ∃ p, p = x.natAbs := ⟨_, rfl⟩
  obtain ⟨q, hq⟩ : ∃ q, q = y.natAbs := ⟨_, rfl⟩
  rw [← hp] at ex ⊢
  rw [← hq] at ey ⊢
  rw [ex, ey]
  cases s <;> cases t <;> simp [Int.neg_tdiv, Int.tdiv_neg]
theorem sgn_tmod {s : Bool} {x y : Int} (Hs : Hid (s = decide (x < 0))) : sgn s (x.natAbs % y.natAbs) = x.tmod y := by
  have h1 := Hs.out
  have e : ∀ z : Int, z = if decide (z < 0) then -(z.natAbs : Int) else z.natAbs := fun z => by by_cases h : z < 0 <;> simp [h] <;> omega
  have ex := e x
  have ey := e y
  rw [← h1] at ex
  unfold sgn
  obtain ⟨p, hp⟩ : ∃ p, p = x.natAbs := ⟨_, rfl⟩
  obtain ⟨q, hq⟩ : ∃ q, q = y.natAbs := ⟨_, rfl⟩
  rw [← hp] at ex ⊢
  rw [← hq] at ey ⊢
  rw [ex, ey]
  cases s <;> by_cases h : y < 0 <;> (simp [h, Int.neg_tmod, Int.tmod_neg]; exact (Int.tmod_eq_emod_of_nonneg (Int.natCast_nonneg _)).symm)

set_option maxRecDepth 100000 in
set_option maxHeartbeats 4000000 in
theorem rdivI_zero (B B' : Nat) (v v' : Value) (x y : Int) (w : World) (hv : IsInt B w v x) (hv' : IsInt B' w v' y) (_hx : x.natAbs < top300) (hy : y = 0) :
    Calls Tryz.prog 50 #[v, v'] w (RetInt2 w 0 0 8) := by
  obtain ⟨s, A, n, c, rfl, Hs, Hn, hl, hc, _⟩ := hv
  obtain ⟨t, C, m, d, rfl, Ht, Hm, hm, hd, _⟩ := hv'
  obtain rfl : m = 0 := by rw [Hm.out, hy]; simp [lim_zero]
  go_enter Tryz.func50, Tryz.ntmps50
  go_wp2
  refine bodyPost_ret (v := .tuple #[.agg #[.bool false, .slice none 0 0], .agg #[.bool false, .slice none 0 0], .int .i64 8]) (by simp [results, Tryz.results50, go_sem]) rfl ⟨_, _, rfl, IsInt.zero _ _, IsInt.zero _ _, ((((Up.refl w).alloc _).alloc _).alloc _).alloc _⟩

set_option maxRecDepth 100000 in
set_option maxHeartbeats 4000000 in
theorem rdivI_any (B B' : Nat) (v v' : Value) (x y : Int) (w : World) (hv : IsInt B w v x) (hv' : IsInt B' w v' y) (hx : x.natAbs < top300) (hy : y.natAbs < top300) (hy0 : y ≠ 0) :
    Calls Tryz.prog 50 #[v, v'] w (RetInt2 w (x.tdiv y) (x.tmod y) 0) := by
  obtain ⟨s, A, n, c, rfl, Hs, Hn, hl, hc, _⟩ := hv
  obtain ⟨t, C, m, d, rfl, Ht, Hm, hm, hd, _⟩ := hv'
  have hn34 : n ≤ 34 := by rw [Hn.out]; exact len_of_top hx
  have hm34 : m ≤ 34 := by rw [Hm.out]; exact len_of_top hy
  obtain ⟨w0, hw0⟩ : ∃ w0, w0 = ((((w.alloc (.cells #[.bool s, .slice A n c] 24)).alloc (.cells #[.bool t, .slice C m d] 24)).alloc (.cells #[.bool false, .slice none 0 0] 24)).alloc (.cells #[.bool false, .slice none 0 0] 24)) := ⟨_, rfl⟩
  have hb1 : Bk w0 (w.heap.size) 24 #[.bool s, .slice A n c] := by
    have := (((Bk.new w 24 #[.bool s, .slice A n c]).alloc (.cells #[.bool t, .slice C m d] 24)).alloc (.cells #[.bool false, .slice none 0 0] 24)).alloc (.cells #[.bool false, .slice none 0 0] 24)
    rw [hw0]; simpa using this
  have hb2 : Bk w0 (w.heap.size + 1) 24 #[.bool t, .slice C m d] := by
    have := ((Bk.new (w.alloc (.cells #[.bool s, .slice A n c] 24)) 24 #[.bool t, .slice C m d]).alloc (.cells #[.bool false, .slice none 0 0] 24)).alloc (.cells #[.bool false, .slice none 0 0] 24)
    rw [hw0]; simpa using this
  have hb3 : Bk w0 (w.heap.size + 1 + 1) 24 #[.bool false, .slice none 0 0] := by
    have := (Bk.new ((w.alloc (.cells #[.bool s, .slice A n c] 24)).alloc (.cells #[.bool t, .slice C m d] 24)) 24 #[.bool false, .slice none 0 0]).alloc (.cells #[.bool false, .slice none 0 0] 24)
    rw [hw0]; simpa using this
  have hb4 : Bk w0 (w.heap.size + 1 + 1 + 1) 24 #[.bool false, .slice none 0 0] := by
    have := Bk.new (((w.alloc (.cells #[.bool s, .slice A n c] 24)).alloc (.cells #[.bool t, .slice C m d] 24)).alloc (.cells #[.bool false, .slice none 0 0] 24)) 24 #[.bool false, .slice none 0 0]
    rw [hw0]; simpa using this
  have hup0 : Up w w0 := by rw [hw0]; exact ((((Up.refl w).alloc _).alloc _).alloc _).alloc _
  have hsz0 : w.heap.size + 4 ≤ w0.heap.size := by rw [hw0]; simp
  have Hw0 := hide hw0
  clear hw0
  have e1a := hb1.cell (i := 0) rfl
  have e1b := hb1.cell (i := 1) rfl
  have e2a := hb2.cell (i := 0) rfl
  have e2b := hb2.cell (i := 1) rfl
  have e3a := hb3.cell (i := 0) rfl
  have e3b := hb3.cell (i := 1) rfl
  have e4a := hb4.cell (i := 0) rfl
  have e4b := hb4.cell (i := 1) rfl
  have hq := hide (sgn_tdiv Hs Ht)
  have hr := hide (sgn_tmod (s := s) (x := x) (y := y) Hs)
  have hyn : 0 < y.natAbs := by omega
  have hm0 : 0 < m := by rw [Hm.out]; exact Nat.pos_of_ne_zero fun e => by rw [lim_len_zero] at e; omega
  have hmb : ((m : Int) == 0) = false := by rw [beq_eq_false_iff_ne]; omega
  have hqt := hide (Nat.lt_of_le_of_lt (Nat.div_le_self x.natAbs y.natAbs) hx)
  have hrt := hide (Nat.lt_of_le_of_lt (Nat.mod_le x.natAbs y.natAbs) hx)
  go_enter Tryz.func50, Tryz.ntmps50
  go_wp2_with fail
  rw [← Hw0.out]
  refine (rdiv_any A C c d x.natAbs y.natAbs _ (hl.up hup0) (hm.up hup0) n m Hn Hm (by omega) (by omega) hyn).mono ?_
  rintro e w1 ⟨A1, n1, c1, A2, n2, c2, rfl, Hn1, Hn2, hl1, hl2, hc1, hc2, _, _, hup1⟩
  have g1 := hup1.keep e1a
  have g2 := hup1.keep e2a
  go_wp2_with fail
  refine (make_any (s != t) A1 c1 _ _ hl1 (dig_lim _) n1 Hn1 (by rw [Hn1.out]; have := len_of_top hqt.out; omega)).mono ?_
  rintro e w2 ⟨v2, rfl, hv2, hup2⟩
  rw [val_lim, hq.out] at hv2
  rw [val_lim, hq.out]
  have hqq : (x.tdiv y).natAbs < top300 := by rw [← hq.out, sgn_abs]; exact hqt.out
  rw [(bnd_ok hqq).1] at hv2
  clear hqq
  obtain ⟨s3, A3, n3, c3, rfl, Hs3, Hn3, hl3, hc3, hnew3⟩ := hv2
  have g3 := hup2.keep g1
  have hsz1 := hup1.size
  have hsz2 := hup2.size
  have hlt2 : w.heap.size < w2.heap.size := by omega
  go_wp2_with fail
  have hl2' := (hl2.up hup2).up ((Up.refl w2).alloc (.cells #[.bool s3, .slice A3 n3 c3] 24))
  refine (make_any s A2 c2 _ _ hl2' (dig_lim _) n2 Hn2 (by rw [Hn2.out]; have := len_of_top hrt.out; omega)).mono ?_
  rintro e w3 ⟨v4, rfl, hv4, hup3⟩
  rw [val_lim, hr.out] at hv4
  rw [val_lim, hr.out]
  have hrr : (x.tmod y).natAbs < top300 := by rw [← hr.out, sgn_abs]; exact hrt.out
  rw [(bnd_ok hrr).1] at hv4
  clear hrr
  obtain ⟨s4, A4, n4, c4, rfl, Hs4, Hn4, hl4, hc4, hnew4⟩ := hv4
  have hbX : Bk w3 w2.heap.size 24 #[.bool s3, .slice A3 n3 c3] := (Bk.new w2 _ _).up hup3
  have hl3' := (hl3.up ((Up.refl w2).alloc (.cells #[.bool s3, .slice A3 n3 c3] 24))).up hup3
  have hup4 := (((hup1.trans hup2).alloc (.cells #[.bool s3, .slice A3 n3 c3] 24)).trans hup3).alloc (.cells #[.bool s4, .slice A4 n4 c4] 24)
  have hsz3 := hup3.size
  rw [World.size_alloc] at hsz3
  obtain ⟨w5, hw5⟩ : ∃ w5, w5 = w3.alloc (.cells #[.bool s4, .slice A4 n4 c4] 24) := ⟨_, rfl⟩
  have hb5 := (hb3.up hup4)
  have hb6 := (hb4.up hup4)
  have hb7 := hbX.alloc (.cells #[.bool s4, .slice A4 n4 c4] 24)
  have hb8 : Bk w5 w3.heap.size 24 #[.bool s4, .slice A4 n4 c4] := by rw [hw5]; exact Bk.new _ _ _
  have hl5 := hl3'.up ((Up.refl w3).alloc (.cells #[.bool s4, .slice A4 n4 c4] 24))
  have hl6 := hl4.up ((Up.refl w3).alloc (.cells #[.bool s4, .slice A4 n4 c4] 24))
  rw [← hw5] at hb5 hb6 hb7 hl5 hl6 hup4
  have HW5 := hide hw5
  have f1 := hb5.cell (i := 0) rfl
  have f2 := hb5.cell (i := 1) rfl
  have f3 := hb6.cell (i := 0) rfl
  have f4 := hb6.cell (i := 1) rfl
  have f5 := hb7.cell (i := 0) rfl
  have f6 := hb7.cell (i := 1) rfl
  have f7 := hb8.cell (i := 0) rfl
  have f8 := hb8.cell (i := 1) rfl
  have p1 := hb5.frozen 0
  have p2 := hb5.frozen 1
  have p3 := hb6.frozen 0
  have p4 := hb6.frozen 1
  clear hw5 hb1 hb2 e1a e1b e2a e2b e3a e3b e4a e4b g1 g2 hl1 hl2 hl2' hl3 hl3' hl4 hbX
  go_wp2_with fail
  rw [← HW5.out]
  go_region
  go_wp2
  have hQ1 := (hb5.two_bk (.bool s3) (.slice A3 n3 c3)).far2 (g' := w.heap.size + 1 + 1 + 1) (by omega) (.bool s4) (.slice A4 n4 c4)
  have hQ2 := (hb6.far2 (g' := w.heap.size + 1 + 1) (by omega) (.bool s3) (.slice A3 n3 c3)).two_bk (.bool s4) (.slice A4 n4 c4)
  have q1 := hQ1.cell (i := 0) rfl
  have q2 := hQ1.cell (i := 1) rfl
  have q3 := hQ2.cell (i := 0) rfl
  have q4 := hQ2.cell (i := 1) rfl
  have hnX : NewB (w.heap.size + 1 + 1 + 1 + 1) A3 := hnew3.mono (by omega)
  have hnY : NewB (w.heap.size + 1 + 1 + 1 + 1) A4 := hnew4.mono (by rw [World.size_alloc]; omega)
  refine bodyPost_ret (v := .tuple #[.agg #[.bool s3, .slice A3 n3 c3], .agg #[.bool s4, .slice A4 n4 c4], .int .i64 0]) (by simp [results, Tryz.results50, go_sem, q1, q2, q3, q4]) rfl
    ⟨_, _, rfl, ⟨s3, A3, n3, c3, rfl, Hs3, Hn3, (((hl5.two (hnX.mono (by omega)) _ _).two hnX _ _).up ((Up.refl _).drew)), hc3, hnX.mono (by omega)⟩, ⟨s4, A4, n4, c4, rfl, Hs4, Hn4, (((hl6.two (hnY.mono (by omega)) _ _).two hnY _ _).up ((Up.refl _).drew)), hc4, hnY.mono (by omega)⟩, ?_⟩
  exact ((((hup0.trans hup4).two (by omega) _ _).two (by omega) _ _)).drew
end Go.Proofs.YtldifgfpecicnaaGreatDoor
/- own and Made: copies of raw integers. -/
namespace Go.Proofs.YtldifgfpecicnaaGreatDoor
open Go.RowKit

/-- A copy: a sign, and limbs in new memory. -/
def RetOwn (w : World) (s : Bool) (l : List Nat) (e : Ending) (w' : World) : Prop :=
  ∃ A n c, e = .returned (.agg #[.bool s, .slice A n c]) ∧ Hid (n = l.length) ∧ Lim w' A l ∧ n ≤ c ∧ NewB w.heap.size A ∧ Up w w'

/-- Some integer that is not too large. -/
def RetSome (w : World) (e : Ending) (w' : World) : Prop := ∃ v z, e = .returned v ∧ IsInt w.heap.size w' v z ∧ z.natAbs < top300 ∧ Up w w'

set_option maxRecDepth 100000 in
set_option maxHeartbeats 4000000 in
theorem made_any (s : Bool) (A : Option Addr) (n c : Nat) (l : List Nat) (w : World) (hl : Lim w A l) (hw : W32 l) (Hn : Hid (n = l.length)) (hn : n ≤ 9223372036854775807) :
    Calls Tryz.prog 57 #[.agg #[.bool s, .slice A n c]] w (RetSome w) := by
  obtain ⟨w0, hw0⟩ : ∃ w0, w0 = ((w.alloc (.cells #[.bool s, .slice A n c] 37)).alloc (.cells #[.bool false, .slice none 0 0] 24)) := ⟨_, rfl⟩
  have hb1 : Bk w0 (w.heap.size) 37 #[.bool s, .slice A n c] := by
    have := (Bk.new w 37 #[.bool s, .slice A n c]).alloc (.cells #[.bool false, .slice none 0 0] 24)
    rw [hw0]; simpa using this
  have hb2 : Bk w0 (w.heap.size + 1) 24 #[.bool false, .slice none 0 0] := by
    have := Bk.new (w.alloc (.cells #[.bool s, .slice A n c] 37)) 24 #[.bool false, .slice none 0 0]
    rw [hw0]; simpa using this
  have hup0 : Up w w0 := by rw [hw0]; exact ((Up.refl w).alloc _).alloc _
  have hsz0 : w.heap.size + 2 ≤ w0.heap.size := by rw [hw0]; simp
  have Hw0 := hide hw0
  clear hw0
  have e1a := hb1.cell (i := 0) rfl
  have e1b := hb1.cell (i := 1) rfl
  have e2a := hb2.cell (i := 0) rfl
  have e2b := hb2.cell (i := 1) rfl
  go_enter Tryz.func57, Tryz.ntmps57
  go_wp2_with fail
  rw [← Hw0.out]
  go_loopw [3, 4] (fun v i wr => ∃ (k : Nat) (o : List Nat), i = .int .i64 k ∧ k ≤ n ∧ k ≤ 34 ∧ Own wr w0.heap.size v k o ∧ Dig o ∧ (33 < k → o.getD 33 0 < 1000) ∧ Up w0 wr) (fun _ i _ => 34 - (intOf i).toNat)
  case atStart => exact ⟨0, [], rfl, by omega, by omega, Own.nil _ _, (fun x hx => by cases hx), (by omega), Up.refl _⟩
  case round =>
    obtain ⟨k, o, rfl, hkn, hk34, hown, hdo, htop, hup⟩ := hrel
    have g1 := hup.keep e1a
    have g2 := hup.keep e1b
    have hsz1 := hup.size
    have hTOP := hide htop
    clear htop
    by_cases hgo : k < n ∧ k < 34
    · obtain ⟨h1, h2⟩ := hgo
      obtain ⟨ad, rfl, hb, hcell⟩ := (hl.up (hup0.trans hup)).at_ (k := k) (by rw [← Hn.out]; exact h1)
      have hy := W32.getD hw k
      obtain ⟨y, Hy⟩ : ∃ y, Hid (y = l.getD k 0) := ⟨_, rfl⟩
      rw [← Hy.out] at hcell hy
      have hone : ∀ (x : Nat) (z : Int), z = (x : Int) → Lim (wr.alloc (.cells #[.int .u32 z] 91)) (some ⟨wr.heap.size, 0, none⟩) [x] := fun x z hz => by
        subst hz
        exact Or.inr ⟨_, rfl, by simp, fun j u hj => by match j, hj with | 0, hj => (simp at hj; subst hj; exact cell_new _ _ _)⟩
      have HONE := hide hone
      clear hone
      by_cases h33 : k = 33
      · have hb33 : ((k : Int) == 33) = true := by rw [h33]; rfl
        have H33 := hide h33
        clear h33
        go_wp2_with (at_builtin; refine wp_app rfl _ _ rfl w0.heap.size _ k o rfl (hown.up ((Up.refl wr).alloc _)) (some ⟨wr.heap.size, 0, none⟩) 1 1 [y % 1000000000 % 1000] rfl rfl (HONE.out _ _ (by omega)) (by omega) (by simp; omega) ?_; intro v1 w1 hown1 hg1)
        go_roundw
        case rel => exact ⟨k + 1, o ++ [y % 1000000000 % 1000], by go_num, by omega, by omega, hown1, dig_snoc hdo (by omega), (fun _ => by have h5 := hown.len; have h6 := H33.out; simp [List.getD, h5, h6]; omega), (hup.alloc _).grown hg1 (fun j hj => (hown.lt j hj).1)⟩
        case measure => simp [intOf]; omega
      · have hb33 : ((k : Int) == 33) = false := by rw [beq_eq_false_iff_ne]; omega
        have H33 := hide h33
        clear h33
        go_wp2_with (at_builtin; refine wp_app rfl _ _ rfl w0.heap.size _ k o rfl (hown.up ((Up.refl wr).alloc _)) (some ⟨wr.heap.size, 0, none⟩) 1 1 [y % 1000000000] rfl rfl (HONE.out _ _ (by omega)) (by omega) (by simp; omega) ?_; intro v1 w1 hown1 hg1)
        go_roundw
        case rel => exact ⟨k + 1, o ++ [y % 1000000000], by go_num, by omega, by omega, hown1, dig_snoc hdo (by omega), (fun h => by have := H33.out; omega), (hup.alloc _).grown hg1 (fun j hj => (hown.lt j hj).1)⟩
        case measure => simp [intOf]; omega
    · have hlen := hown.len
      have hval : Hid (val o < top300) := by
        show val o < top300
        rcases Nat.lt_or_ge k 34 with h | h
        · have h1 := val_lt hdo
          have h2 : bas o.length ≤ bas 33 := bas_mono (by omega)
          unfold top300; omega
        · have h1 := val_split o (k := 33) (by omega)
          rw [List.drop_eq_nil_of_le (by omega), val, Nat.mul_zero, Nat.add_zero] at h1
          have h2 := val_lt (dig_take hdo 33)
          rw [List.length_take, Nat.min_eq_left (by omega)] at h2
          have h3 := hTOP.out (by omega)
          have h4 : bas 33 * o.getD 33 0 ≤ bas 33 * 999 := Nat.mul_le_mul_left _ (by omega)
          unfold top300; omega
      have HLEN := hide hlen
      clear hlen
      obtain ⟨A3, c3, rfl, hc3, hl3, _⟩ := hown.lim
      have key : ∀ w1, Up w0 w1 → Lim w1 A3 o → Calls Tryz.prog 84 #[.bool s, .slice A3 k c3] w1 fun e w2 => ∃ (s2 : Bool) (A2 : Option Addr) (n2 c2 : Nat) (z : Int), e = .returned (.tuple #[.agg #[.bool s2, .slice A2 n2 c2], .int .i64 0]) ∧ Hid (s2 = decide (z < 0)) ∧ Hid (n2 = (lim z.natAbs).length) ∧ Lim w2 A2 (lim z.natAbs) ∧ n2 ≤ c2 ∧ NewB (w.heap.size + 1 + 1) A2 ∧ Up w w2 ∧ Bk w2 (w.heap.size + 1) 24 #[.bool false, .slice none 0 0] ∧ z.natAbs < top300 := by
        intro w1 hup1 hl4
        refine (make_any s A3 c3 o w1 hl4 hdo k HLEN.out.symm (by omega)).mono ?_
        rintro e w2 ⟨v2, rfl, hv2, hup2⟩
        have hz : (sgn s (val o)).natAbs < top300 := by rw [sgn_abs]; exact hval.out
        rw [(bnd_ok hz).1] at hv2
        rw [(bnd_ok hz).2]
        obtain ⟨s2, A2, n2, c2, rfl, Hs2, Hn2, hl2, hc2, hnew2⟩ := hv2
        exact ⟨s2, A2, n2, c2, _, rfl, Hs2, Hn2, hl2, hc2, hnew2.mono (by have := hup1.size; omega), (hup0.trans hup1).trans hup2, (hb2.up hup1).up hup2, hz⟩
      have KEY := hide key
      clear key hown
      have fin : Calls Tryz.prog 84 #[.bool s, .slice A3 k c3] wr _ := KEY.out wr hup hl3
      have FIN := hide fin
      clear fin hb1 hb2 e2a e2b
      rcases (show (k < n ∧ 34 ≤ k) ∨ n ≤ k by omega) with ⟨hlt, h34⟩ | hlt
      all_goals
        have hge : ¬ (k < n ∧ k < 34) := hgo
        have HGO := hide hge
        clear hge hgo
        go_wp2_with fail
        refine FIN.out.mono ?_
        rintro e w2 ⟨s2, A2, n2, c2, z, rfl, Hs2, Hn2, hl2, hc2, hnew2, hup2, hbz, hzt⟩
        have f1 := hbz.cell (i := 0) rfl
        have f2 := hbz.cell (i := 1) rfl
        have f3 := hbz.frozen 0
        have f4 := hbz.frozen 1
        have f5 := hbz.lt
        have HQ := hide (fun o => ((hbz.two_bk (.bool s2) (.slice A2 n2 c2)).alloc o).cell (i := 0) rfl)
        have HQ2 := hide (fun o => ((hbz.two_bk (.bool s2) (.slice A2 n2 c2)).alloc o).cell (i := 1) rfl)
        go_wp2
        refine bodyPost_ret (v := .agg #[.bool s2, .slice A2 n2 c2]) (by simp [results, Tryz.results57, go_sem, HQ.out, HQ2.out]) rfl ⟨_, z, rfl, ⟨s2, A2, n2, c2, rfl, Hs2, Hn2, (hl2.two hnew2 _ _).up ((Up.refl _).alloc _), hc2, hnew2.mono (by omega)⟩, hzt, (hup2.two (by omega) _ _).alloc _⟩
end Go.Proofs.YtldifgfpecicnaaGreatDoor
