/- The program's scale, takeAway, putBack: a row times a limb; limb times a row taken from a window of another row, and put back. -/
import Derived.Test.YtnelnobcecnhlaaD4
import Derived.Test.YtnelnobcecnhlaaMath7
namespace Go.Proofs.Ytnelnobcecnhlaa
open Go.RowKit

/-- A new row of N limbs that is worth r. -/
def RetVal (w : World) (N r : Nat) (e : Ending) (w' : World) : Prop := ∃ L, e = .returned (.slice (some ⟨w.heap.size, 0, none⟩) N N) ∧ Own w' w.heap.size (.slice (some ⟨w.heap.size, 0, none⟩) N N) N L ∧ Dig L ∧ val L = r ∧ Up w w'
theorem scale_step {a L : List Nat} {k c f s : Nat} (hk : k < L.length) (hv : val (L.take k) + bas k * c = val (a.take k) * f) (hs : s = a.getD k 0 * f + c) : val ((L.set k (s % 1000000000)).take (k + 1)) + bas (k + 1) * (s / 1000000000) = val (a.take (k + 1)) * f := by
  rw [val_take_set L hk, val_take_step a, Nat.add_mul]
  have e := split_bas k s
  have e2 : bas k * s = bas k * a.getD k 0 * f + bas k * c := by rw [hs, Nat.mul_add, Nat.mul_assoc]
  omega
set_option maxHeartbeats 2000000 in
theorem scale_any (A : Option Addr) (ca a f n N : Nat) (w : World) (hA : Lim w A (lim a)) (Hn : Hid (n = (lim a).length)) (hnN : n ≤ N) (hN : N ≤ 2000) (hf : f < 1000000000) (Hlt : Hid (a * f < bas N)) :
    Calls Try.prog 78 #[.slice A n ca, .int .u32 f, .int .i64 N] w (RetVal w N (a * f)) := by
  go_enter Try.func78, Try.ntmps78
  go_wp2_with (at_make; refine wp_mk rfl _ _ rfl w.heap.size N _ _ _ _ rfl rfl rfl rfl (by omega) (Nat.le_refl _) ?_; intro w0 hown0 hup0 hlt0)
  go_wp2
  go_loopw [8, 14] (fun cv iv wr => ∃ (k c : Nat) (L : List Nat), cv = .int .u64 c ∧ iv = .int .i64 k ∧ k ≤ N ∧ c < 1000000000 ∧ Own wr w.heap.size (.slice (some ⟨w.heap.size, 0, none⟩) N N) N L ∧ Dig L ∧ val (L.take k) + bas k * c = val ((lim a).take k) * f ∧ Up w wr) (fun _ iv _ => N - (intOf iv).toNat)
  case atStart => exact ⟨0, 0, _, rfl, rfl, by omega, by omega, hown0, dig_replicate _, by simp [val], hup0⟩
  case round =>
    clear hown0 hup0 hlt0
    obtain ⟨k, c, L, rfl, rfl, hk, hc, hown, hdL, hv, hup⟩ := hrel
    have HV := hide hv
    have HLL := hide hown.len
    clear hv
    by_cases hgo : k < N
    · have hcellL := hown.cell (j := k) (by omega)
      have hfrL := hown.frozen k
      have hx := dig_getD (dig_lim a) k
      obtain ⟨x, Hx⟩ : ∃ x, Hid (x = (lim a).getD k 0) := ⟨_, rfl⟩
      rw [← Hx.out] at hx
      by_cases hkn : k < n
      · obtain ⟨ad, rfl, hb, hcell⟩ := (hA.up hup).at_ (k := k) (by rw [← Hn.out]; exact hkn)
        rw [← Hx.out] at hcell
        have HC := hide (mul_carry (q := 0) (x := x) (y := f) (c := c) (by omega) hx hf hc (t := 0 + x * f + c) rfl)
        have HS := hide (scale_step (L := L) (a := lim a) (k := k) (f := f) (s := x * f + c) (by rw [HLL.out]; omega) HV.out (by rw [← Hx.out]))
        obtain ⟨p, Hp⟩ : ∃ p, Hid (p = x * f) := ⟨_, rfl⟩
        have hxy : (x : Int) * (f : Int) = (p : Int) := by rw [Hp.out]; simp
        rw [← Hp.out] at HC HS
        have hp2 := HC.out.2
        have hc2 := HC.out.1
        rw [Nat.zero_add] at hc2
        have HO := hide (hown.set_ k ((p + c) % 1000000000))
        clear hown
        go_wp2
        go_roundw
        case rel =>
          refine ⟨k + 1, (p + c) / 1000000000, L.set k ((p + c) % 1000000000), by first | go_num | (congr 1; omega), by go_num, by omega, hc2, ?_, dig_set hdL (by omega), HS.out, hup.setCell (Nat.le_refl _) _⟩
          have h := HO.out
          first
            | (rw [show (((p + c) % 1000000000 : Nat) : Int) = ((p : Int) + c) % 1000000000 by omega] at h; exact h)
            | (rw [show (((p + c) % 1000000000 : Nat) : Int) = ((c : Int) + p) % 1000000000 by omega] at h; exact h)
        case measure => simp [intOf]; omega
      · have HX0 : Hid (x = 0) := by show x = 0; rw [Hx.out]; simp [List.getD, List.getElem?_eq_none (show (lim a).length ≤ k by rw [← Hn.out]; omega)]
        have HS := hide (scale_step (L := L) (a := lim a) (k := k) (f := f) (s := c) (by rw [HLL.out]; omega) HV.out (by rw [← Hx.out, HX0.out]; omega))
        have HO := hide (hown.set_ k (c % 1000000000))
        clear hown
        go_wp2
        go_roundw
        case rel =>
          refine ⟨k + 1, c / 1000000000, L.set k (c % 1000000000), by go_num, by go_num, by omega, by omega, ?_, dig_set hdL (by omega), HS.out, hup.setCell (Nat.le_refl _) _⟩
          have h := HO.out
          first
            | (rw [show ((c % 1000000000 : Nat) : Int) = (c : Int) % 1000000000 by omega] at h; exact h)
            | (rw [show ((c % 1000000000 : Nat) : Int) = (c : Int) by omega] at h; exact h)
        case measure => simp [intOf]; omega
    · obtain rfl : k = N := by omega
      have HE : Hid (val L = a * f) := by
        have h1 := HV.out
        have h2 := Hlt.out
        rw [List.take_of_length_le (l := L) (by rw [HLL.out]; exact Nat.le_refl _), List.take_of_length_le (l := lim a) (by rw [← Hn.out]; omega), val_lim] at h1
        show val L = a * f
        rcases Nat.eq_zero_or_pos c with h | h
        · subst h; omega
        · have : bas k * 1 ≤ bas k * c := Nat.mul_le_mul_left _ h
          omega
      go_wp2
      go_ret
      exact ⟨L, rfl, hown, hdL, HE.out, hup⟩
theorem grown_set (w : World) (g j : Nat) (u : Value) : w.grownBy (w.setCell ⟨g, j, none⟩ u) (some g) :=
  ⟨rfl, rfl, rfl, by simp, fun k _ hk => Below.heap_setCell _ _ _ k (fun e => hk (by rw [e]))⟩
theorem grown_trans {a b c : World} {r : Option Nat} (h : a.grownBy b r) (k : b.grownBy c r) : a.grownBy c r :=
  ⟨k.os.trans h.os, k.tape.trans h.tape, k.output.trans h.output, Nat.le_trans h.size k.size, fun j hj hne => (k.block j (Nat.lt_of_lt_of_le hj h.size) hne).trans (h.block j hj hne)⟩
theorem Lim.grownG {w w' : World} {A : Option Addr} {l : List Nat} {g : Nat} (h : Lim w A l) (hg : w.grownBy w' (some g)) (hne : ∀ ad, A = some ad → ad.block ≠ g) : Lim w' A l := by
  rcases h with h | ⟨ad, e, hb, hc⟩
  · exact .inl h
  · exact .inr ⟨ad, e, Nat.lt_of_lt_of_le hb hg.size, fun j x hj => (World.cell?_of_block (w := w) (a := ad.add j) (hg.block _ (by rw [addBlock]; exact hb) (by rw [addBlock]; exact fun e2 => hne ad e (Option.some.inj e2)))).trans (hc j x hj)⟩

/-- What takeAway leaves: whether the difference is negative, and the window's new limbs. -/
def RetTake (w : World) (base g i N C m q vb : Nat) (L : List Nat) (e : Ending) (w' : World) : Prop := ∃ (neg : Bool) (L' : List Nat), e = .returned (.bool neg) ∧ Own w' base (.slice (some ⟨g, 0, none⟩) N C) N L' ∧ Dig L' ∧ (∀ j, (j < i ∨ i + m < j) → L'.getD j 0 = L.getD j 0) ∧ val ((L'.drop i).take (m + 1)) + q * vb = val ((L.drop i).take (m + 1)) + bas (m + 1) * (if neg then 1 else 0) ∧ w.grownBy w' (some g)
theorem take_math {p y c : Nat} (hc : c ≤ 1000000000) (hp : p ≤ 999999999000000000) (hy : y < 1000000000) : (p + c) / 1000000000 ≤ 1000000000 ∧ (y < (p + c) % 1000000000 → (p + c) / 1000000000 + 1 ≤ 1000000000) := by
  constructor <;> omega
set_option maxHeartbeats 4000000 in
theorem take_any (base g i N C m q : Nat) (B : Option Addr) (cb cw : Nat) (L bl : List Nat) (w : World) (hown : Own w base (.slice (some ⟨g, 0, none⟩) N C) N L) (hdL : Dig L) (hB : Lim w B bl) (hdb : Dig bl) (Hm : Hid (m = bl.length)) (hfar : ∀ ad, B = some ad → ad.block ≠ g) (him : i + m + 1 ≤ N) (hN : N ≤ 2000) (hq : q ≤ 1000000000) :
    Calls Try.prog 80 #[.slice (some ⟨g, i, none⟩) (m + 1 : Nat) cw, .slice B m cb, .int .u64 q] w (RetTake w base g i N C m q (val bl) L) := by
  have HFar := hide hfar
  clear hfar
  go_enter Try.func80, Try.ntmps80
  go_wp2
  go_loopw [7, 16] (fun cv iv wr => ∃ (k c : Nat) (L' : List Nat), cv = .int .u64 c ∧ iv = .int .i64 k ∧ k ≤ m ∧ c ≤ 1000000000 ∧ Own wr base (.slice (some ⟨g, 0, none⟩) N C) N L' ∧ Dig L' ∧ (∀ j, (j < i ∨ i + k ≤ j) → L'.getD j 0 = L.getD j 0) ∧ val ((L'.drop i).take k) + q * val (bl.take k) = val ((L.drop i).take k) + bas k * c ∧ w.grownBy wr (some g)) (fun _ iv _ => m - (intOf iv).toNat)
  case atStart => exact ⟨0, 0, L, rfl, rfl, by omega, by omega, hown, hdL, (fun _ _ => rfl), by simp [val], World.grownBy.refl w _⟩
  case round =>
    clear hown
    obtain ⟨k, c, L', rfl, rfl, hk, hc, hown, hdL', hsame, hv, hgr⟩ := hrel
    have HV := hide hv
    have HSm := hide hsame
    have HLL := hide hown.len
    have HG := hide hgr
    clear hv hsame hgr
    have hcellL := hown.cell (j := i + k) (by omega)
    have hfrL := hown.frozen (i + k)
    have hy := dig_getD hdL' (i + k)
    obtain ⟨y, Hy⟩ : ∃ y, Hid (y = L'.getD (i + k) 0) := ⟨_, rfl⟩
    rw [← Hy.out] at hcellL hy
    have HYW : Hid ((L.drop i).getD k 0 = y) := by show _ = _; rw [getD_drop, Hy.out]; exact (HSm.out (i + k) (.inr (Nat.le_refl _))).symm
    have HDL : Hid (k < (L'.drop i).length) := by show _ < _; rw [List.length_drop, HLL.out]; omega
    by_cases hgo : k < m
    · obtain ⟨bd, rfl, hb2, hcell2⟩ := (hB.grownG HG.out HFar.out).at_ (k := k) (by rw [← Hm.out]; exact hgo)
      have hx := dig_getD hdb k
      obtain ⟨x, Hx⟩ : ∃ x, Hid (x = bl.getD k 0) := ⟨_, rfl⟩
      rw [← Hx.out] at hcell2 hx
      obtain ⟨p, Hp⟩ : ∃ p, Hid (p = q * x) := ⟨_, rfl⟩
      have hxy : (q : Int) * (x : Int) = (p : Int) := by rw [Hp.out]; simp
      have hp2 : p ≤ 999999999000000000 := by rw [Hp.out]; exact Nat.mul_le_mul hq (show x ≤ 999999999 by omega)
      have HM := hide (take_math hc hp2 hy)
      by_cases hlo : y < (p + c) % 1000000000
      · have hloI : (y : Int) < ((p : Int) + c) % 1000000000 := by omega
        have hcb := HM.out.2 hlo
        have HS := hide (take_step (L := L'.drop i) (W0 := L.drop i) (b := bl) (k := k) (c := c) (q := q) (d := y + 1000000000 - (p + c) % 1000000000) (c' := (p + c) / 1000000000 + 1) HDL.out HV.out (by rw [HYW.out, ← Hx.out, ← Hp.out]; omega))
        have HO := hide ((hown.set_ (i + k) (y + 1000000000)).set_ (i + k) (y + 1000000000 - (p + c) % 1000000000))
        clear hown
        go_wp2
        go_roundw
        case rel =>
          refine ⟨k + 1, (p + c) / 1000000000 + 1, L'.set (i + k) (y + 1000000000 - (p + c) % 1000000000), by go_num, by go_num, by omega, hcb, ?_, dig_set hdL' (by omega), (fun j hj => by rw [getD_set_ne (by omega)]; exact HSm.out j (by omega)), by rw [drop_set_add]; exact HS.out, grown_trans (grown_trans HG.out (grown_set _ _ _ _)) (grown_set _ _ _ _)⟩
          have h := HO.out
          rw [List.set_set, show ((y + 1000000000 : Nat) : Int) = (y : Int) + 1000000000 by omega, show ((y + 1000000000 - (p + c) % 1000000000 : Nat) : Int) = (y : Int) + 1000000000 - ((p : Int) + c) % 1000000000 by omega] at h
          exact h
        case measure => simp [intOf]; omega
      · have hloI : ¬ (y : Int) < ((p : Int) + c) % 1000000000 := by omega
        have hcb := HM.out.1
        have HS := hide (take_step (L := L'.drop i) (W0 := L.drop i) (b := bl) (k := k) (c := c) (q := q) (d := y - (p + c) % 1000000000) (c' := (p + c) / 1000000000) HDL.out HV.out (by rw [HYW.out, ← Hx.out, ← Hp.out]; omega))
        have HO := hide (hown.set_ (i + k) (y - (p + c) % 1000000000))
        clear hown
        go_wp2
        go_roundw
        case rel =>
          refine ⟨k + 1, (p + c) / 1000000000, L'.set (i + k) (y - (p + c) % 1000000000), by go_num, by go_num, by omega, hcb, ?_, dig_set hdL' (by omega), (fun j hj => by rw [getD_set_ne (by omega)]; exact HSm.out j (by omega)), by rw [drop_set_add]; exact HS.out, grown_trans HG.out (grown_set _ _ _ _)⟩
          have h := HO.out
          rw [show ((y - (p + c) % 1000000000 : Nat) : Int) = (y : Int) - ((p : Int) + c) % 1000000000 by omega] at h
          exact h
        case measure => simp [intOf]; omega
    · obtain rfl : k = m := by omega
      have HB0 : Hid (bl.getD k 0 = 0) := by show _ = _; simp [List.getD, List.getElem?_eq_none (show bl.length ≤ k by rw [← Hm.out]; exact Nat.le_refl _)]
      have HBT : Hid (bl.take (k + 1) = bl) := by show _ = _; rw [List.take_of_length_le (by rw [← Hm.out]; omega)]
      by_cases hlo : y < c
      · have hlo2 : decide ((y : Int) < (c : Int)) = true := by simp; omega
        have HS := hide (take_step (L := L'.drop i) (W0 := L.drop i) (b := bl) (k := k) (c := c) (q := q) (d := y + 1000000000 - c) (c' := 1) HDL.out HV.out (by rw [HYW.out, HB0.out]; omega))
        have HO := hide ((hown.set_ (i + k) (y + 1000000000)).set_ (i + k) (y + 1000000000 - c))
        clear hown
        go_wp2
        go_ret
        refine ⟨true, L'.set (i + k) (y + 1000000000 - c), by first | rfl | (simp; omega), ?_, dig_set hdL' (by omega), (fun j hj => by rw [getD_set_ne (by omega)]; exact HSm.out j (by omega)), by have h := HS.out; rw [HBT.out] at h; rw [drop_set_add]; exact h, grown_trans (grown_trans HG.out (grown_set _ _ _ _)) (grown_set _ _ _ _)⟩
        have h := HO.out
        rw [List.set_set, show ((y + 1000000000 : Nat) : Int) = (y : Int) + 1000000000 by omega, show ((y + 1000000000 - c : Nat) : Int) = (y : Int) + 1000000000 - (c : Int) by omega] at h
        exact h
      · have hlo2 : decide ((y : Int) < (c : Int)) = false := by simp; omega
        have HS := hide (take_step (L := L'.drop i) (W0 := L.drop i) (b := bl) (k := k) (c := c) (q := q) (d := y - c) (c' := 0) HDL.out HV.out (by rw [HYW.out, HB0.out]; omega))
        have HO := hide (hown.set_ (i + k) (y - c))
        clear hown
        go_wp2
        go_ret
        refine ⟨false, L'.set (i + k) (y - c), by first | rfl | (simp; omega), ?_, dig_set hdL' (by omega), (fun j hj => by rw [getD_set_ne (by omega)]; exact HSm.out j (by omega)), by have h := HS.out; rw [HBT.out] at h; rw [drop_set_add]; exact h, grown_trans HG.out (grown_set _ _ _ _)⟩
        have h := HO.out
        rw [show ((y - c : Nat) : Int) = (y : Int) - (c : Int) by omega] at h
        exact h

/-- What putBack leaves. -/
def RetPut (w : World) (base g i N C m vb : Nat) (L : List Nat) (e : Ending) (w' : World) : Prop := ∃ (c : Nat) (L' : List Nat), (∃ v, e = .returned v) ∧ Own w' base (.slice (some ⟨g, 0, none⟩) N C) N L' ∧ Dig L' ∧ (∀ j, (j < i ∨ i + m < j) → L'.getD j 0 = L.getD j 0) ∧ val ((L'.drop i).take (m + 1)) + bas (m + 1) * c = val ((L.drop i).take (m + 1)) + vb ∧ w.grownBy w' (some g)
set_option maxHeartbeats 4000000 in
theorem put_any (base g i N C m : Nat) (B : Option Addr) (cb cw : Nat) (L bl : List Nat) (w : World) (hown : Own w base (.slice (some ⟨g, 0, none⟩) N C) N L) (hdL : Dig L) (hB : Lim w B bl) (hdb : Dig bl) (Hm : Hid (m = bl.length)) (hfar : ∀ ad, B = some ad → ad.block ≠ g) (him : i + m + 1 ≤ N) (hN : N ≤ 2000) :
    Calls Try.prog 81 #[.slice (some ⟨g, i, none⟩) (m + 1 : Nat) cw, .slice B m cb] w (RetPut w base g i N C m (val bl) L) := by
  have HFar := hide hfar
  clear hfar
  go_enter Try.func81, Try.ntmps81
  go_wp2
  go_loopw [4, 10] (fun cv iv wr => ∃ (k c : Nat) (L' : List Nat), cv = .int .u32 c ∧ iv = .int .i64 k ∧ k ≤ m ∧ c ≤ 1 ∧ Own wr base (.slice (some ⟨g, 0, none⟩) N C) N L' ∧ Dig L' ∧ (∀ j, (j < i ∨ i + k ≤ j) → L'.getD j 0 = L.getD j 0) ∧ val ((L'.drop i).take k) + bas k * c = val ((L.drop i).take k) + val (bl.take k) ∧ w.grownBy wr (some g)) (fun _ iv _ => m - (intOf iv).toNat)
  case atStart => exact ⟨0, 0, L, rfl, rfl, by omega, by omega, hown, hdL, (fun _ _ => rfl), by simp [val], World.grownBy.refl w _⟩
  case round =>
    clear hown
    obtain ⟨k, c, L', rfl, rfl, hk, hc, hown, hdL', hsame, hv, hgr⟩ := hrel
    have HV := hide hv
    have HSm := hide hsame
    have HLL := hide hown.len
    have HG := hide hgr
    clear hv hsame hgr
    have hcellL := hown.cell (j := i + k) (by omega)
    have hfrL := hown.frozen (i + k)
    have hy := dig_getD hdL' (i + k)
    obtain ⟨y, Hy⟩ : ∃ y, Hid (y = L'.getD (i + k) 0) := ⟨_, rfl⟩
    rw [← Hy.out] at hcellL hy
    have HYW : Hid ((L.drop i).getD k 0 = y) := by show _ = _; rw [getD_drop, Hy.out]; exact (HSm.out (i + k) (.inr (Nat.le_refl _))).symm
    have HDL : Hid (k < (L'.drop i).length) := by show _ < _; rw [List.length_drop, HLL.out]; omega
    by_cases hgo : k < m
    · obtain ⟨bd, rfl, hb2, hcell2⟩ := (hB.grownG HG.out HFar.out).at_ (k := k) (by rw [← Hm.out]; exact hgo)
      have hx := dig_getD hdb k
      obtain ⟨x, Hx⟩ : ∃ x, Hid (x = bl.getD k 0) := ⟨_, rfl⟩
      rw [← Hx.out] at hcell2 hx
      have HS := hide (plus_step (L := L'.drop i) (a := L.drop i) (b := bl) (k := k) (c := c) (s := y + x + c) HDL.out HV.out (by rw [HYW.out, ← Hx.out]))
      have HO := hide (hown.set_ (i + k) ((y + x + c) % 1000000000))
      clear hown
      go_wp2
      go_roundw
      case rel =>
        refine ⟨k + 1, (y + x + c) / 1000000000, L'.set (i + k) ((y + x + c) % 1000000000), by go_num, by go_num, by omega, by omega, ?_, dig_set hdL' (by omega), (fun j hj => by rw [getD_set_ne (by omega)]; exact HSm.out j (by omega)), by rw [drop_set_add]; exact HS.out, grown_trans HG.out (grown_set _ _ _ _)⟩
        have h := HO.out
        rw [show (((y + x + c) % 1000000000 : Nat) : Int) = ((y : Int) + x + c) % 1000000000 by omega] at h
        exact h
      case measure => simp [intOf]; omega
    · obtain rfl : k = m := by omega
      have HB0 : Hid (bl.getD k 0 = 0) := by show _ = _; simp [List.getD, List.getElem?_eq_none (show bl.length ≤ k by rw [← Hm.out]; exact Nat.le_refl _)]
      have HBT : Hid (bl.take (k + 1) = bl) := by show _ = _; rw [List.take_of_length_le (by rw [← Hm.out]; omega)]
      have HS := hide (plus_step (L := L'.drop i) (a := L.drop i) (b := bl) (k := k) (c := c) (s := y + c) HDL.out HV.out (by rw [HYW.out, HB0.out]; omega))
      have HO := hide (hown.set_ (i + k) ((y + c) % 1000000000))
      clear hown
      go_wp2
      go_end0
      refine ⟨(y + c) / 1000000000, L'.set (i + k) ((y + c) % 1000000000), ⟨_, rfl⟩, ?_, dig_set hdL' (by omega), (fun j hj => by rw [getD_set_ne (by omega)]; exact HSm.out j (by omega)), by have h := HS.out; rw [HBT.out] at h; rw [drop_set_add]; exact h, grown_trans HG.out (grown_set _ _ _ _)⟩
      have h := HO.out
      rw [show (((y + c) % 1000000000 : Nat) : Int) = ((y : Int) + c) % 1000000000 by omega] at h
      exact h
end Go.Proofs.Ytnelnobcecnhlaa
