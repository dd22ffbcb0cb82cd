/- The program's times. -/
import Derived.Test.YtnelnobcecnhlaaDoorD3
import Derived.Test.YtnelnobcecnhlaaDoorMath6
namespace Go.Proofs.YtnelnobcecnhlaaDoor
open Go.RowKit

set_option maxHeartbeats 4000000 in
theorem times_any (A B : Option Addr) (ca cb a b : Nat) (w : World) (hA : Lim w A (lim a)) (hB : Lim w B (lim b)) (n m : Nat) (Hn : Hid (n = (lim a).length)) (Hm : Hid (m = (lim b).length)) (hn : n ≤ 10000) (hm : m ≤ 10000) :
    Calls Tryd.prog 49 #[.slice A n ca, .slice B m cb] w (RetLim w (a * b)) := by
  go_enter Tryd.func49, Tryd.ntmps49
  go_wp2_with (at_make; refine wp_mk rfl _ _ rfl w.heap.size (n + m) _ _ _ _ rfl rfl (by omega) (by omega) (by omega) (Nat.le_refl _) ?_; intro w0 hown0 hup0 hlt0)
  go_wp2
  go_loopw [20] (fun iv wr => ∃ (i : Nat) (L : List Nat), iv = .int .i64 i ∧ i ≤ n ∧ Own wr w.heap.size (.slice (some ⟨w.heap.size, 0, none⟩) (n + m) (n + m)) (n + m) L ∧ Dig L ∧ (∀ p, i + m ≤ p → L.getD p 0 = 0) ∧ val L = val ((lim a).take i) * b ∧ Up w wr) (fun iv _ => n - (intOf iv).toNat)
  case atStart => exact ⟨0, _, rfl, by omega, hown0, dig_replicate _, (fun p _ => by simp [List.getD, List.getElem?_replicate]; split <;> rfl), by simp [val, val_replicate], hup0⟩
  case round =>
    clear hown0 hup0 hlt0
    obtain ⟨i, L, rfl, hi, hown, hdL, hz, hv, hup⟩ := hrel
    have HV := hide hv
    have HZ := hide hz
    have HLL := hide hown.len
    clear hv hz
    by_cases hgo : i < n
    · obtain ⟨ad, rfl, hb, hcell⟩ := (hA.up hup).at_ (k := i) (by rw [← Hn.out]; exact hgo)
      have hx := dig_getD (dig_lim a) i
      obtain ⟨x, Hx⟩ : ∃ x, Hid (x = (lim a).getD i 0) := ⟨_, rfl⟩
      rw [← Hx.out] at hcell hx
      obtain ⟨wo, hwo⟩ : ∃ wo, wo = wr := ⟨_, rfl⟩
      rw [← hwo] at hown hup hcell hb ⊢
      clear hwo
      go_wp2
      go_loopw [8, 27] (fun cv jv wr => ∃ (j c : Nat) (L : List Nat), cv = .int .u64 c ∧ jv = .int .i64 j ∧ j ≤ m ∧ c < 1000000000 ∧ Own wr w.heap.size (.slice (some ⟨w.heap.size, 0, none⟩) (n + m) (n + m)) (n + m) L ∧ Dig L ∧ (∀ p, i + m ≤ p → L.getD p 0 = 0) ∧ val L + bas (i + j) * c = val ((lim a).take i) * b + bas i * (x * val ((lim b).take j)) ∧ Up w wr) (fun _ jv _ => m - (intOf jv).toNat)
      case atStart => exact ⟨0, 0, L, rfl, rfl, by omega, by omega, hown, hdL, HZ.out, by simp [val]; exact HV.out, hup⟩
      case round =>
        clear hown HV HZ HLL hdL hup hcell hb
        obtain ⟨j, c, L, rfl, rfl, hj, hc, hown, hdL, hz, hv, hup⟩ := hrel
        have HV := hide hv
        have HZ := hide hz
        have HLL := hide hown.len
        clear hv hz
        by_cases hgj : j < m
        · obtain ⟨bd, rfl, hb2, hcell2⟩ := (hB.up hup).at_ (k := j) (by rw [← Hm.out]; exact hgj)
          have hy := dig_getD (dig_lim b) j
          obtain ⟨y, Hy⟩ : ∃ y, Hid (y = (lim b).getD j 0) := ⟨_, rfl⟩
          rw [← Hy.out] at hcell2 hy
          have hcellL := hown.cell (j := i + j) (by omega)
          have hfrL := hown.frozen (i + j)
          have hq := dig_getD hdL (i + j)
          obtain ⟨q, Hq⟩ : ∃ q, Hid (q = L.getD (i + j) 0) := ⟨_, rfl⟩
          rw [← Hq.out] at hcellL hq
          have HC := hide (mul_carry hq hx hy hc (t := q + x * y + c) rfl)
          have HS := hide (mul_step (L := L) (p := i + j) (c := c) (xy := x * y) (t := q + x * y + c) (by rw [HLL.out]; omega) (by rw [← Hq.out]) HV.out)
          obtain ⟨p, Hp⟩ : ∃ p, Hid (p = x * y) := ⟨_, rfl⟩
          have hxy : (x : Int) * (y : Int) = (p : Int) := by rw [Hp.out]; simp
          have HXY : Hid (bas (i + j) * (x * y) = bas i * (x * (bas j * y))) := by show _ = _; rw [bas_add, Nat.mul_assoc, Nat.mul_left_comm (bas j)]
          rw [← Hp.out] at HC HS HXY
          have hp2 := HC.out.2
          have hc2 := HC.out.1
          have HO := hide (hown.set_ (i + j) ((q + p + c) % 1000000000))
          clear hown
          go_wp2
          go_roundw
          case rel =>
            refine ⟨j + 1, (q + p + c) / 1000000000, L.set (i + j) ((q + p + c) % 1000000000), by go_num, by go_num, by omega, hc2, ?_, dig_set hdL (by omega), (fun r hr => by rw [getD_set_ne (by omega)]; exact HZ.out r hr), ?_, hup.setCell (Nat.le_refl _) _⟩
            · have h := HO.out
              rw [show (((q + p + c) % 1000000000 : Nat) : Int) = ((q : Int) + p + c) % 1000000000 by omega] at h
              exact h
            · have h := HS.out
              rw [val_take_step, ← Hy.out, Nat.mul_add, Nat.mul_add, ← HXY.out]
              exact h.trans (Nat.add_assoc _ _ _)
          case measure => simp [intOf]; omega
        · obtain rfl : j = m := by omega
          have hcellL := hown.cell (j := i + j) (by omega)
          have hfrL := hown.frozen (i + j)
          have HO := hide (hown.set_ (i + j) c)
          have HW := hide (val_set L (p := i + j) (d := c) (by rw [HLL.out]; omega))
          clear hown
          go_wp2
          go_roundw
          case rel =>
            refine ⟨i + 1, L.set (i + j) c, by go_num, by omega, HO.out, dig_set hdL hc, (fun r hr => by rw [getD_set_ne (by omega)]; exact HZ.out r (by omega)), ?_, hup.setCell (Nat.le_refl _) _⟩
            have h1 := HW.out
            have h2 := HV.out
            rw [HZ.out (i + j) (Nat.le_refl _), Nat.mul_zero, Nat.add_zero] at h1
            rw [Hm.out, List.take_length, val_lim, ← Hm.out] at h2
            rw [h1, h2, val_take_step, ← Hx.out, Nat.add_mul, Nat.mul_assoc]
          case measure => simp [intOf]; omega
    · obtain rfl : i = n := by omega
      have hlen1 := hide hown.len
      obtain ⟨hlim, _⟩ := hown.lim'
      have HR : Hid (val L = a * b) := by
        have h := HV.out
        rw [List.take_of_length_le (l := lim a) (by rw [← Hn.out]; exact Nat.le_refl _), val_lim] at h
        exact h
      clear hown
      go_wp2_with fail
      refine (trim_lim' _ _ _ _ hlim (i + m) _ hlen1.out hdL HR.out (by omega) (Nat.le_refl _)).mono ?_
      rintro e w2 ⟨⟨n2, rfl, HN2, hlim2, hc2⟩, rfl⟩
      go_wp2
      go_ret
      exact ⟨_, n2, _, rfl, HN2, hlim2, hc2, fun ad e => by cases e; exact Nat.le_refl _, hup⟩
end Go.Proofs.YtnelnobcecnhlaaDoor
