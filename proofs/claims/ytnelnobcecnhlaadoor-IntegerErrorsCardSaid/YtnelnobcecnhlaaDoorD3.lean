/- Clone; the program's minus. -/
import Derived.Test.YtnelnobcecnhlaaDoorD2
namespace Go.Proofs.YtnelnobcecnhlaaDoor
open Go.RowKit

/-- New limbs with the very numbers. -/
def RetRow (w : World) (l : List Nat) (e : Ending) (w' : World) : Prop := ∃ v n, e = .returned v ∧ Hid (n = l.length) ∧ Own w' w.heap.size v n l ∧ Up w w'

set_option maxHeartbeats 1000000 in
theorem clone_any (A : Option Addr) (c n : Nat) (l : List Nat) (w : World) (h : Lim w A l) (Hn : Hid (n = l.length)) (hn : n ≤ 100000) :
    Calls Tryd.prog 69 #[.slice A n c] w (RetRow w l) := by
  rcases A with _ | ad
  · have hl : l = [] := by rcases h with h | ⟨ad, h, _⟩ <;> first | exact h | cases h
    subst hl
    obtain rfl : n = 0 := Hn.out
    have heq := fun wx => Lib.run_eql_slice_nil (P := Tryd.prog) wx 22
    go_enter Tryd.func69, Tryd.ntmps69
    go_wp2
    go_ret
    exact ⟨_, 0, rfl, rfl, Own.nil _ _, Up.refl w⟩
  · have h1 := Own.lit w (base := w.heap.size) (n := 0) ([] : List Nat) #[] (Nat.le_refl _) (by omega) rfl rfl
    have hne := fun (wx : World) => Lib.run_eql_slice_nil (P := Tryd.prog) wx 22
    go_enter Tryd.func69, Tryd.ntmps69
    go_wp2_with (at_builtin; refine wp_app rfl _ _ rfl w.heap.size (.slice (some ⟨w.heap.size, 0, none⟩) 0 0) 0 [] rfl h1 (some ad) n c l rfl Hn.out.symm (h.up ((Up.refl w).alloc _)) (by omega) (by simp) ?_; intro v1 w1 hown1 hg1)
    simp only [List.nil_append, Nat.zero_add] at hown1
    go_ret
    exact ⟨_, n, rfl, Hn, hown1, ((Up.refl w).alloc _).grown hg1 (fun k hk => by cases hk; exact Nat.le_refl _)⟩

set_option maxHeartbeats 2000000 in
theorem minus_any (A B : Option Addr) (ca cb a b : Nat) (w : World) (hA : Lim w A (lim a)) (hB : Lim w B (lim b)) (n m : Nat) (Hn : Hid (n = (lim a).length)) (Hm : Hid (m = (lim b).length)) (hn : n ≤ 100000) (hle : b ≤ a) :
    Calls Tryd.prog 67 #[.slice A n ca, .slice B m cb] w (RetLim w (a - b)) := by
  have Hle := hide hle
  have hmn : m ≤ n := by rw [Hn.out, Hm.out]; exact lim_len_mono hle
  clear hle
  go_enter Tryd.func67, Tryd.ntmps67
  go_wp2_with fail
  refine (clone_any A ca n (lim a) _ hA Hn hn).mono ?_
  rintro e w0 ⟨v0, n0, rfl, Hn0, hown0, hup0⟩
  obtain rfl : n0 = n := Hn0.out.trans Hn.out.symm
  obtain ⟨A1, c1, rfl, hc1, _, _⟩ := hown0.lim
  go_wp2
  go_loopw [6, 13] (fun bv iv wr => ∃ (k c : Nat) (L : List Nat), bv = .int .u32 c ∧ iv = .int .i64 k ∧ k ≤ n0 ∧ c ≤ 1 ∧ Own wr w.heap.size (.slice A1 n0 c1) n0 L ∧ Dig L ∧ (∀ j, k ≤ j → L.getD j 0 = (lim a).getD j 0) ∧ val (L.take k) + val ((lim b).take k) = val ((lim a).take k) + bas k * c ∧ Up w wr) (fun _ iv _ => n0 - (intOf iv).toNat)
  case atStart => exact ⟨0, 0, lim a, rfl, rfl, by omega, by omega, hown0, dig_lim a, (fun _ _ => rfl), by simp [val], hup0⟩
  case round =>
    clear hown0 hup0
    obtain ⟨k, c, L, rfl, rfl, hk, hc, hown, hdL, hT, hv, hup⟩ := hrel
    have HV := hide hv
    have HT := hide hT
    have HLL := hide hown.len
    clear hv hT
    by_cases hgo : k < n0
    · obtain ⟨g, c', he, hgB, hgw, hgc⟩ := hown.form (by omega)
      cases he
      have hcellL := hown.cell (j := k) (by omega)
      have hfrL := hown.frozen k
      have hx := dig_getD hdL k
      obtain ⟨x, Hx⟩ : ∃ x, Hid (x = L.getD k 0) := ⟨_, rfl⟩
      rw [← Hx.out] at hcellL hx
      have HX : Hid (x = (lim a).getD k 0) := Hx.out.trans (HT.out k (Nat.le_refl _))
      have hy := dig_getD (dig_lim b) k
      obtain ⟨y, Hy⟩ : ∃ y, Hid (y = (lim b).getD k 0) := ⟨_, rfl⟩
      rw [← Hy.out] at hy
      by_cases hkm : k < m
      · obtain ⟨bd, rfl, hb2, hcell2⟩ := (hB.up hup).at_ (k := k) (by rw [← Hm.out]; exact hkm)
        rw [← Hy.out] at hcell2
        by_cases hlt : x < c + y
        · have HS := hide (minus_step (L := L) (a := lim a) (b := lim b) (d := (x + 1000000000 - (c + y))) (c' := 1) (by rw [HLL.out]; omega) HV.out (by rw [← HX.out, ← Hy.out]; omega))
          have HO := hide ((hown.set_ k (x + 1000000000)).set_ k (x + 1000000000 - (c + y)))
          clear hown
          go_wp2
          go_roundw
          case rel => exact ⟨k + 1, 1, L.set k (x + 1000000000 - (c + y)), rfl, by go_num, by omega, by omega, by have h := HO.out; rw [List.set_set, show ((x + 1000000000 : Nat) : Int) = (x : Int) + 1000000000 by omega, show (((x + 1000000000 - (c + y)) : Nat) : Int) = (x : Int) + 1000000000 - ((c : Int) + y) by omega] at h; exact h, dig_set hdL (by omega), (fun j hj => by rw [getD_set_ne (by omega)]; exact HT.out j (by omega)), HS.out, (hup.setCell hgB _).setCell hgB _⟩
          case measure => simp [intOf]; omega
        · have HS := hide (minus_step (L := L) (a := lim a) (b := lim b) (d := (x - (c + y))) (c' := 0) (by rw [HLL.out]; omega) HV.out (by rw [← HX.out, ← Hy.out]; omega))
          have HO := hide (hown.set_ k (x - (c + y)))
          clear hown
          go_wp2
          go_roundw
          case rel => exact ⟨k + 1, 0, L.set k (x - (c + y)), rfl, by go_num, by omega, by omega, by have h := HO.out; rw [show (((x - (c + y)) : Nat) : Int) = (x : Int) - ((c : Int) + y) by omega] at h; exact h, dig_set hdL (by omega), (fun j hj => by rw [getD_set_ne (by omega)]; exact HT.out j (by omega)), HS.out, hup.setCell hgB _⟩
          case measure => simp [intOf]; omega
      · have HY0 : Hid (y = 0) := by show y = 0; rw [Hy.out]; simp [List.getD, List.getElem?_eq_none (show (lim b).length ≤ k by rw [← Hm.out]; omega)]
        by_cases hlt : x < c
        · have HS := hide (minus_step (L := L) (a := lim a) (b := lim b) (d := (x + 1000000000 - (c))) (c' := 1) (by rw [HLL.out]; omega) HV.out (by rw [← HX.out, ← Hy.out]; have h0 := HY0.out; omega))
          have HO := hide ((hown.set_ k (x + 1000000000)).set_ k (x + 1000000000 - (c)))
          clear hown
          go_wp2
          go_roundw
          case rel => exact ⟨k + 1, 1, L.set k (x + 1000000000 - (c)), rfl, by go_num, by omega, by omega, by have h := HO.out; rw [List.set_set, show ((x + 1000000000 : Nat) : Int) = (x : Int) + 1000000000 by omega, show (((x + 1000000000 - (c)) : Nat) : Int) = (x : Int) + 1000000000 - ((c : Int)) by omega] at h; exact h, dig_set hdL (by omega), (fun j hj => by rw [getD_set_ne (by omega)]; exact HT.out j (by omega)), HS.out, (hup.setCell hgB _).setCell hgB _⟩
          case measure => simp [intOf]; omega
        · have HS := hide (minus_step (L := L) (a := lim a) (b := lim b) (d := (x - (c))) (c' := 0) (by rw [HLL.out]; omega) HV.out (by rw [← HX.out, ← Hy.out]; have h0 := HY0.out; omega))
          have HO := hide (hown.set_ k (x - (c)))
          clear hown
          go_wp2
          go_roundw
          case rel => exact ⟨k + 1, 0, L.set k (x - (c)), rfl, by go_num, by omega, by omega, by have h := HO.out; rw [show (((x - (c)) : Nat) : Int) = (x : Int) - ((c : Int)) by omega] at h; exact h, dig_set hdL (by omega), (fun j hj => by rw [getD_set_ne (by omega)]; exact HT.out j (by omega)), HS.out, hup.setCell hgB _⟩
          case measure => simp [intOf]; omega
    · obtain rfl : k = n0 := by omega
      have hlen1 := hide hown.len
      have HR : Hid (val L = a - b) := sub_end (o := L) Hle.out (by rw [HLL.out, ← Hn.out]) hc hdL (by have h := HV.out; rw [List.take_of_length_le (l := L) (by rw [HLL.out]; exact Nat.le_refl _)] at h; rw [← Hn.out]; exact h)
      obtain ⟨A2, c2, he, hc2, hlim, hnew⟩ := hown.lim
      cases he
      clear hown
      go_wp2_with fail
      refine (trim_lim' _ _ _ _ hlim k _ hlen1.out hdL HR.out (by omega) hc2).mono ?_
      rintro e w2 ⟨⟨n2, rfl, HN2, hlim2, hc3⟩, rfl⟩
      go_wp2
      go_ret
      exact ⟨_, n2, _, rfl, HN2, hlim2, hc3, hnew, hup⟩
end Go.Proofs.YtnelnobcecnhlaaDoor
