/- The program's plus and minus. -/
import Derived.Test.YtnelnobcecnhlaaDoorD1
import Derived.Test.YtnelnobcecnhlaaDoorMath5
namespace Go.Proofs.YtnelnobcecnhlaaDoor
open Go.RowKit

theorem trim_lim' (A : Option Addr) (c : Nat) (o : List Nat) (w : World) (h : Lim w A o) (n r : Nat) (hn : o.length = n) (hd : Dig o) (hv : val o = r) (hl : n ≤ 1000000) (hc : n ≤ c) :
    Calls Tryd.prog 68 #[.slice A n c] w fun e w' => (∃ n', e = .returned (.slice A n' c) ∧ Hid (n' = (lim r).length) ∧ Lim w' A (lim r) ∧ n' ≤ c) ∧ w = w' :=
  (trim_any A c o w h n hn.symm hl hc).mono fun e w' ⟨he, hw⟩ => by
    subst he
    subst hw
    subst hn
    subst hv
    exact ⟨⟨_, rfl, keep_len hd, by rw [← trim_lim hd]; exact h.take _, Nat.le_trans (keep_le _ _) hc⟩, rfl⟩
/-- How an owned row reads. -/
theorem Own.lim' {w : World} {base g n c : Nat} {l : List Nat} (h : Own w base (.slice (some ⟨g, 0, none⟩) n c) n l) : Lim w (some ⟨g, 0, none⟩) l ∧ base ≤ g := by
  obtain ⟨A, c', e, _, hl, hn⟩ := h.lim
  cases e
  exact ⟨hl, hn _ rfl⟩

set_option maxHeartbeats 2000000 in
theorem plus_any (A B : Option Addr) (ca cb a b : Nat) (w : World) (hA : Lim w A (lim a)) (hB : Lim w B (lim b)) (n m : Nat) (Hn : Hid (n = (lim a).length)) (Hm : Hid (m = (lim b).length)) (hn : n ≤ 100000) (hm : m ≤ 100000) :
    Calls Tryd.prog 66 #[.slice A n ca, .slice B m cb] w (RetLim w (a + b)) := by
  by_cases hnm : n < m
  · go_enter Tryd.func66, Tryd.ntmps66
    go_wp2_with (at_make; refine wp_mk rfl _ _ rfl w.heap.size (m + 1) _ _ _ _ rfl rfl (by omega) (by omega) (by omega) (Nat.le_refl _) ?_; intro w0 hown0 hup0 hlt0)
    go_wp2
    go_loopw [6, 22] (fun cv iv wr => ∃ (k c : Nat) (L : List Nat), cv = .int .u32 c ∧ iv = .int .i64 k ∧ k ≤ m ∧ c ≤ 1 ∧ Own wr w.heap.size (.slice (some ⟨w.heap.size, 0, none⟩) (m + 1) (m + 1)) (m + 1) L ∧ Dig L ∧ val (L.take k) + bas k * c = val ((lim b).take k) + val ((lim a).take k) ∧ Up w wr) (fun _ iv _ => m - (intOf iv).toNat)
    case atStart => exact ⟨0, 0, _, rfl, rfl, by omega, by omega, hown0, dig_replicate _, by simp [val], hup0⟩
    case round =>
      clear hown0 hup0 hlt0
      obtain ⟨k, c, L, rfl, rfl, hk, hc, hown, hdL, hv, hup⟩ := hrel
      have HV := hide hv
      have HLL := hide hown.len
      clear hv
      by_cases hgo : k < m
      · obtain ⟨ad, rfl, hb, hcell⟩ := (hB.up hup).at_ (k := k) (by rw [← Hm.out]; exact hgo)
        have hx := dig_getD (dig_lim b) k
        obtain ⟨x, Hx⟩ : ∃ x, Hid (x = (lim b).getD k 0) := ⟨_, rfl⟩
        rw [← Hx.out] at hcell hx
        have hcellL := hown.cell (j := k) (by omega)
        have hfrL := hown.frozen k
        have hy := dig_getD (dig_lim a) k
        obtain ⟨y, Hy⟩ : ∃ y, Hid (y = (lim a).getD k 0) := ⟨_, rfl⟩
        rw [← Hy.out] at hy
        by_cases hkm : k < n
        · obtain ⟨bd, rfl, hb2, hcell2⟩ := (hA.up hup).at_ (k := k) (by rw [← Hn.out]; exact hkm)
          rw [← Hy.out] at hcell2
          have HS := hide (plus_step (L := L) (by rw [HLL.out]; omega) HV.out (s := x + y + c) (by rw [Hx.out, Hy.out]))
          have HO := hide (hown.set_ k ((x + y + c) % 1000000000))
          clear hown
          go_wp2
          go_roundw
          case rel => exact ⟨k + 1, (x + y + c) / 1000000000, L.set k ((x + y + c) % 1000000000), by go_num, by go_num, by omega, by omega, by rw [show ((x : Int) + c + y) % 1000000000 = (((x + y + c) % 1000000000 : Nat) : Int) by omega]; exact HO.out, dig_set hdL (by omega), HS.out, hup.setCell (Nat.le_refl _) _⟩
          case measure => simp [intOf]; omega
        · have HY0 : Hid (y = 0) := by show y = 0; rw [Hy.out]; simp [List.getD, List.getElem?_eq_none (show (lim a).length ≤ k by rw [← Hn.out]; omega)]
          have HS := hide (plus_step (L := L) (by rw [HLL.out]; omega) HV.out (s := x + c) (by rw [← Hx.out, ← Hy.out, HY0.out]; omega))
          have HO := hide (hown.set_ k ((x + c) % 1000000000))
          clear hown
          go_wp2
          go_roundw
          case rel => exact ⟨k + 1, (x + c) / 1000000000, L.set k ((x + c) % 1000000000), by go_num, by go_num, by omega, by omega, by rw [show ((x : Int) + c) % 1000000000 = (((x + c) % 1000000000 : Nat) : Int) by omega]; exact HO.out, dig_set hdL (by omega), HS.out, hup.setCell (Nat.le_refl _) _⟩
          case measure => simp [intOf]; omega
      · obtain rfl : k = m := by omega
        have hcellL := hown.cell (j := k) (by omega)
        have hfrL := hown.frozen k
        have HO := hide (hown.set_ k c)
        obtain ⟨hlim1, _⟩ := HO.out.lim'
        have hlen1 := hide HO.out.len
        have hdL1 : Dig (L.set k c) := dig_set hdL (by omega)
        have hupF : Up w (wr.setCell ⟨w.heap.size, k, none⟩ (.int .u32 (c : Int))) := hup.setCell (Nat.le_refl _) _
        have HR : Hid (val (L.set k c) = a + b) := by
          have h1 := HV.out
          have h2 := val_take_set L (k := k) (d := c) (by rw [HLL.out]; omega)
          rw [List.take_of_length_le (by rw [List.length_set, HLL.out]; exact Nat.le_refl _)] at h2
          rw [List.take_of_length_le (l := lim b) (by rw [← Hm.out]; exact Nat.le_refl _), List.take_of_length_le (l := lim a) (by rw [← Hn.out]; omega), val_lim, val_lim] at h1
          show val (L.set k c) = a + b
          omega
        clear hown
        go_wp2_with fail
        refine (trim_lim' _ _ _ _ hlim1 (k + 1) _ hlen1.out hdL1 HR.out (by omega) (Nat.le_refl _)).mono ?_
        rintro e w2 ⟨⟨n2, rfl, HN2, hlim2, hc2⟩, rfl⟩
        go_wp2
        go_ret
        exact ⟨_, n2, _, rfl, HN2, hlim2, hc2, fun ad e => by cases e; exact Nat.le_refl _, hupF⟩
  · go_enter Tryd.func66, Tryd.ntmps66
    go_wp2_with (at_make; refine wp_mk rfl _ _ rfl w.heap.size (n + 1) _ _ _ _ rfl rfl (by omega) (by omega) (by omega) (Nat.le_refl _) ?_; intro w0 hown0 hup0 hlt0)
    go_wp2
    go_loopw [6, 22] (fun cv iv wr => ∃ (k c : Nat) (L : List Nat), cv = .int .u32 c ∧ iv = .int .i64 k ∧ k ≤ n ∧ c ≤ 1 ∧ Own wr w.heap.size (.slice (some ⟨w.heap.size, 0, none⟩) (n + 1) (n + 1)) (n + 1) L ∧ Dig L ∧ val (L.take k) + bas k * c = val ((lim a).take k) + val ((lim b).take k) ∧ Up w wr) (fun _ iv _ => n - (intOf iv).toNat)
    case atStart => exact ⟨0, 0, _, rfl, rfl, by omega, by omega, hown0, dig_replicate _, by simp [val], hup0⟩
    case round =>
      clear hown0 hup0 hlt0
      obtain ⟨k, c, L, rfl, rfl, hk, hc, hown, hdL, hv, hup⟩ := hrel
      have HV := hide hv
      have HLL := hide hown.len
      clear hv
      by_cases hgo : k < n
      · obtain ⟨ad, rfl, hb, hcell⟩ := (hA.up hup).at_ (k := k) (by rw [← Hn.out]; exact hgo)
        have hx := dig_getD (dig_lim a) k
        obtain ⟨x, Hx⟩ : ∃ x, Hid (x = (lim a).getD k 0) := ⟨_, rfl⟩
        rw [← Hx.out] at hcell hx
        have hcellL := hown.cell (j := k) (by omega)
        have hfrL := hown.frozen k
        have hy := dig_getD (dig_lim b) k
        obtain ⟨y, Hy⟩ : ∃ y, Hid (y = (lim b).getD k 0) := ⟨_, rfl⟩
        rw [← Hy.out] at hy
        by_cases hkm : k < m
        · obtain ⟨bd, rfl, hb2, hcell2⟩ := (hB.up hup).at_ (k := k) (by rw [← Hm.out]; exact hkm)
          rw [← Hy.out] at hcell2
          have HS := hide (plus_step (L := L) (by rw [HLL.out]; omega) HV.out (s := x + y + c) (by rw [Hx.out, Hy.out]))
          have HO := hide (hown.set_ k ((x + y + c) % 1000000000))
          clear hown
          go_wp2
          go_roundw
          case rel => exact ⟨k + 1, (x + y + c) / 1000000000, L.set k ((x + y + c) % 1000000000), by go_num, by go_num, by omega, by omega, by rw [show ((x : Int) + c + y) % 1000000000 = (((x + y + c) % 1000000000 : Nat) : Int) by omega]; exact HO.out, dig_set hdL (by omega), HS.out, hup.setCell (Nat.le_refl _) _⟩
          case measure => simp [intOf]; omega
        · have HY0 : Hid (y = 0) := by show y = 0; rw [Hy.out]; simp [List.getD, List.getElem?_eq_none (show (lim b).length ≤ k by rw [← Hm.out]; omega)]
          have HS := hide (plus_step (L := L) (by rw [HLL.out]; omega) HV.out (s := x + c) (by rw [← Hx.out, ← Hy.out, HY0.out]; omega))
          have HO := hide (hown.set_ k ((x + c) % 1000000000))
          clear hown
          go_wp2
          go_roundw
          case rel => exact ⟨k + 1, (x + c) / 1000000000, L.set k ((x + c) % 1000000000), by go_num, by go_num, by omega, by omega, by rw [show ((x : Int) + c) % 1000000000 = (((x + c) % 1000000000 : Nat) : Int) by omega]; exact HO.out, dig_set hdL (by omega), HS.out, hup.setCell (Nat.le_refl _) _⟩
          case measure => simp [intOf]; omega
      · obtain rfl : k = n := by omega
        have hcellL := hown.cell (j := k) (by omega)
        have hfrL := hown.frozen k
        have HO := hide (hown.set_ k c)
        obtain ⟨hlim1, _⟩ := HO.out.lim'
        have hlen1 := hide HO.out.len
        have hdL1 : Dig (L.set k c) := dig_set hdL (by omega)
        have hupF : Up w (wr.setCell ⟨w.heap.size, k, none⟩ (.int .u32 (c : Int))) := hup.setCell (Nat.le_refl _) _
        have HR : Hid (val (L.set k c) = a + b) := by
          have h1 := HV.out
          have h2 := val_take_set L (k := k) (d := c) (by rw [HLL.out]; omega)
          rw [List.take_of_length_le (by rw [List.length_set, HLL.out]; exact Nat.le_refl _)] at h2
          rw [List.take_of_length_le (l := lim a) (by rw [← Hn.out]; exact Nat.le_refl _), List.take_of_length_le (l := lim b) (by rw [← Hm.out]; omega), val_lim, val_lim] at h1
          show val (L.set k c) = a + b
          omega
        clear hown
        go_wp2_with fail
        refine (trim_lim' _ _ _ _ hlim1 (k + 1) _ hlen1.out hdL1 HR.out (by omega) (Nat.le_refl _)).mono ?_
        rintro e w2 ⟨⟨n2, rfl, HN2, hlim2, hc2⟩, rfl⟩
        go_wp2
        go_ret
        exact ⟨_, n2, _, rfl, HN2, hlim2, hc2, fun ad e => by cases e; exact Nat.le_refl _, hupF⟩
end Go.Proofs.YtnelnobcecnhlaaDoor
