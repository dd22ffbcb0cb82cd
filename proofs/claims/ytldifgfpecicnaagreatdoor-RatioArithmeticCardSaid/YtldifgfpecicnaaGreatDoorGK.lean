import Derived.Test.YtldifgfpecicnaaGreatDoorGD
import Derived.Test.YtldifgfpecicnaaGreatDoorGA
import Derived.Test.YtldifgfpecicnaaGreatDoorGE
/- The program's scale, takeAway, putBack: a row times a limb; limb times a row taken from a window of another row, and put back. -/
namespace Go.Proofs.YtldifgfpecicnaaGreatDoor
open Go.RowKit

/-- A new row of N limbs that is worth r. -/
def RetVal (w : World) (N r : Nat) (e : Ending) (w' : World) : Prop := ∃ L, e = .returned (.slice (some ⟨w.heap.size, 0, none⟩) N N) ∧ Own w' w.heap.size (.slice (some ⟨w.heap.size, 0, none⟩) N N) N L ∧ Dig L ∧ val L = r ∧ Up w w'
theorem scale_step {a L : List Nat} {k c f s : Nat} (hk : k < L.length) (hv : val (L.take k) + bas k * c = val (a.take k) * f) (hs : s = a.getD k 0 * f + c) : val ((L.set k (s % 1000000000)).take (k + 1)) + bas (k + 1) * (s / 1000000000) = val (a.take (k + 1)) * f := by
  rw [val_take_set L hk, val_take_step a, Nat.add_mul]
  have e := split_bas k s
  have e2 : bas k * s = bas k * a.getD k 0 * f + bas k * c := by rw [hs, Nat.mul_add, Nat.mul_assoc]
  omega
set_option maxRecDepth 100000 in
set_option maxHeartbeats 2000000 in
theorem scale_any (A : Option Addr) (ca a f n N : Nat) (w : World) (hA : Lim w A (lim a)) (Hn : Hid (n = (lim a).length)) (hnN : n ≤ N) (hN : N ≤ 2000) (hf : f < 1000000000) (Hlt : Hid (a * f < bas N)) :
    Calls Tryz.prog 145 #[.slice A n ca, .int .u32 f, .int .i64 N] w (RetVal w N (a * f)) := by
  go_enter Tryz.func145, Tryz.ntmps145
  go_wp2_with (at_make; refine wp_mk rfl _ _ rfl w.heap.size N _ _ _ _ rfl rfl rfl rfl (by omega) (Nat.le_refl _) ?_; intro w0 hown0 hup0 hlt0)
  go_wp2
  go_loopw [8, 14] (fun cv iv wr => ∃ (k c : Nat) (L : List Nat), cv = .int .u64 c ∧ iv = .int .i64 k ∧ k ≤ N ∧ c < 1000000000 ∧ Own wr w.heap.size (.slice (some ⟨w.heap.size, 0, none⟩) N N) N L ∧ Dig L ∧ val (L.take k) + bas k * c = val ((lim a).take k) * f ∧ Up w wr) (fun _ iv _ => N - (intOf iv).toNat)
  case atStart => exact ⟨0, 0, _, rfl, rfl, by omega, by omega, hown0, dig_replicate _, by simp [val], hup0⟩
  case round =>
    clear hown0 hup0 hlt0
    obtain ⟨k, c, L, rfl, rfl, hk, hc, hown, hdL, hv, hup⟩ := hrel
    have HV := hide hv
    have HLL := hide hown.len
    clear hv
    by_cases hgo : k < N
    · have hcellL := hown.cell (j := k) (by omega)
      have hfrL := hown.frozen k
      have hx := dig_getD (dig_lim a) k
      obtain ⟨x, Hx⟩ : ∃ x, Hid (x = (lim a).getD k 0) := ⟨_, rfl⟩
      rw [← Hx.out] at hx
      by_cases hkn : k < n
      · obtain ⟨ad, rfl, hb, hcell⟩ := (hA.up hup).at_ (k := k) (by rw [← Hn.out]; exact hkn)
        rw [← Hx.out] at hcell
        have HC := hide (mul_carry (q := 0) (x := x) (y := f) (c := c) (by omega) hx hf hc (t := 0 + x * f + c) rfl)
        have HS := hide (scale_step (L := L) (a := lim a) (k := k) (f := f) (s := x * f + c) (by rw [HLL.out]; omega) HV.out (by rw [← Hx.out]))
        obtain ⟨p, Hp⟩ : ∃ p, Hid (p = x * f) := ⟨_, rfl⟩
        have hxy : (x : Int) * (f : Int) = (p : Int) := by rw [Hp.out]; simp
        rw [← Hp.out] at HC HS
        have hp2 := HC.out.2
        have hc2 := HC.out.1
        rw [Nat.zero_add] at hc2
        have HO := hide (hown.set_ k ((p + c) % 1000000000))
        clear hown
        go_wp2
        go_roundw
        case rel =>
          refine ⟨k + 1, (p + c) / 1000000000, L.set k ((p + c) % 1000000000), by first | go_num | (congr 1; omega), by go_num, by omega, hc2, ?_, dig_set hdL (by omega), HS.out, hup.setCell (Nat.le_refl _) _⟩
          have h := HO.out
          first
            | (rw [show (((p + c) % 1000000000 : Nat) : Int) = ((p : Int) + c) % 1000000000 by omega] at h; exact h)
            | (rw [show (((p + c) % 1000000000 : Nat) : Int) = ((c : Int) + p) % 1000000000 by omega] at h; exact h)
        case measure => simp [intOf]; omega
      · have HX0 : Hid (x = 0) := by show x = 0; rw [Hx.out]; simp [List.getD, List.getElem?_eq_none (show (lim a).length ≤ k by rw [← Hn.out]; omega)]
        have HS := hide (scale_step (L := L) (a := lim a) (k := k) (f := f) (s := c) (by rw [HLL.out]; omega) HV.out (by rw [← Hx.out, HX0.out]; omega))
        have HO := hide (hown.set_ k (c % 1000000000))
        clear hown
        go_wp2
        go_roundw
        case rel =>
          refine ⟨k + 1, c / 1000000000, L.set k (c % 1000000000), by go_num, by go_num, by omega, by omega, ?_, dig_set hdL (by omega), HS.out, hup.setCell (Nat.le_refl _) _⟩
          have h := HO.out
          first
            | (rw [show ((c % 1000000000 : Nat) : Int) = (c : Int) % 1000000000 by omega] at h; exact h)
            | (rw [show ((c % 1000000000 : Nat) : Int) = (c : Int) by omega] at h; exact h)
        case measure => simp [intOf]; omega
    · obtain rfl : k = N := by omega
      have HE : Hid (val L = a * f) := by
        have h1 := HV.out
        have h2 := Hlt.out
        rw [List.take_of_length_le (l := L) (by rw [HLL.out]; exact Nat.le_refl _), List.take_of_length_le (l := lim a) (by rw [← Hn.out]; omega), val_lim] at h1
        show val L = a * f
        rcases Nat.eq_zero_or_pos c with h | h
        · subst h; omega
        · have : bas k * 1 ≤ bas k * c := Nat.mul_le_mul_left _ h
          omega
      go_wp2
      go_ret
      exact ⟨L, rfl, hown, hdL, HE.out, hup⟩
theorem grown_set (w : World) (g j : Nat) (u : Value) : w.grownBy (w.setCell ⟨g, j, none⟩ u) (some g) :=
  ⟨rfl, rfl, rfl, by simp, fun k _ hk => Below.heap_setCell _ _ _ k (fun e => hk (by rw [e]))⟩
theorem grown_trans {a b c : World} {r : Option Nat} (h : a.grownBy b r) (k : b.grownBy c r) : a.grownBy c r :=
  ⟨k.os.trans h.os, k.tape.trans h.tape, k.output.trans h.output, Nat.le_trans h.size k.size, fun j hj hne => (k.block j (Nat.lt_of_lt_of_le hj h.size) hne).trans (h.block j hj hne)⟩
theorem Lim.grownG {w w' : World} {A : Option Addr} {l : List Nat} {g : Nat} (h : Lim w A l) (hg : w.grownBy w' (some g)) (hne : ∀ ad, A = some ad → ad.block ≠ g) : Lim w' A l := by
  rcases h with h | ⟨ad, e, hb, hc⟩
  · exact .inl h
  · exact .inr ⟨ad, e, Nat.lt_of_lt_of_le hb hg.size, fun j x hj => (World.cell?_of_block (w := w) (a := ad.add j) (hg.block _ (by rw [addBlock]; exact hb) (by rw [addBlock]; exact fun e2 => hne ad e (Option.some.inj e2)))).trans (hc j x hj)⟩

/-- What takeAway leaves: whether the difference is negative, and the window's new limbs. -/
def RetTake (w : World) (base g i N C m q vb : Nat) (L : List Nat) (e : Ending) (w' : World) : Prop := ∃ (neg : Bool) (L' : List Nat), e = .returned (.bool neg) ∧ Own w' base (.slice (some ⟨g, 0, none⟩) N C) N L' ∧ Dig L' ∧ (∀ j, (j < i ∨ i + m < j) → L'.getD j 0 = L.getD j 0) ∧ val ((L'.drop i).take (m + 1)) + q * vb = val ((L.drop i).take (m + 1)) + bas (m + 1) * (if neg then 1 else 0) ∧ w.grownBy w' (some g)
theorem take_math {p y c : Nat} (hc : c ≤ 1000000000) (hp : p ≤ 999999999000000000) (hy : y < 1000000000) : (p + c) / 1000000000 ≤ 1000000000 ∧ (y < (p + c) % 1000000000 → (p + c) / 1000000000 + 1 ≤ 1000000000) := by
  constructor <;> omega
set_option maxRecDepth 100000 in
set_option maxHeartbeats 4000000 in
theorem take_any (base g i N C m q : Nat) (B : Option Addr) (cb cw : Nat) (L bl : List Nat) (w : World) (hown : Own w base (.slice (some ⟨g, 0, none⟩) N C) N L) (hdL : Dig L) (hB : Lim w B bl) (hdb : Dig bl) (Hm : Hid (m = bl.length)) (hfar : ∀ ad, B = some ad → ad.block ≠ g) (him : i + m + 1 ≤ N) (hN : N ≤ 2000) (hq : q ≤ 1000000000) :
    Calls Tryz.prog 147 #[.slice (some ⟨g, i, none⟩) (m + 1 : Nat) cw, .slice B m cb, .int .u64 q] w (RetTake w base g i N C m q (val bl) L) := by
  have HFar := hide hfar
  clear hfar
  go_enter Tryz.func147, Tryz.ntmps147
  go_wp2
  go_loopw [7, 16] (fun cv iv wr => ∃ (k c : Nat) (L' : List Nat), cv = .int .u64 c ∧ iv = .int .i64 k ∧ k ≤ m ∧ c ≤ 1000000000 ∧ Own wr base (.slice (some ⟨g, 0, none⟩) N C) N L' ∧ Dig L' ∧ (∀ j, (j < i ∨ i + k ≤ j) → L'.getD j 0 = L.getD j 0) ∧ val ((L'.drop i).take k) + q * val (bl.take k) = val ((L.drop i).take k) + bas k * c ∧ w.grownBy wr (some g)) (fun _ iv _ => m - (intOf iv).toNat)
  case atStart => exact ⟨0, 0, L, rfl, rfl, by omega, by omega, hown, hdL, (fun _ _ => rfl), by simp [val], World.grownBy.refl w _⟩
  case round =>
    clear hown
    obtain ⟨k, c, L', rfl, rfl, hk, hc, hown, hdL', hsame, hv, hgr⟩ := hrel
    have HV := hide hv
    have HSm := hide hsame
    have HLL := hide hown.len
    have HG := hide hgr
    clear hv hsame hgr
    have hcellL := hown.cell (j := i + k) (by omega)
    have hfrL := hown.frozen (i + k)
    have hy := dig_getD hdL' (i + k)
    obtain ⟨y, Hy⟩ : ∃ y, Hid (y = L'.getD (i + k) 0) := ⟨_, rfl⟩
    rw [← Hy.out] at hcellL hy
    have HYW : Hid ((L.drop i).getD k 0 = y) := by show _ = _; rw [getD_drop, Hy.out]; exact (HSm.out (i + k) (.inr (Nat.le_refl _))).symm
    have HDL : Hid (k < (L'.drop i).length) := by show _ < _; rw [List.length_drop, HLL.out]; omega
    by_cases hgo : k < m
    · obtain ⟨bd, rfl, hb2, hcell2⟩ := (hB.grownG HG.out HFar.out).at_ (k := k) (by rw [← Hm.out]; exact hgo)
      have hx := dig_getD hdb k
      obtain ⟨x, Hx⟩ : ∃ x, Hid (x = bl.getD k 0) := ⟨_, rfl⟩
      rw [← Hx.out] at hcell2 hx
      obtain ⟨p, Hp⟩ : ∃ p, Hid (p = q * x) := ⟨_, rfl⟩
      have hxy : (q : Int) * (x : Int) = (p : Int) := by rw [Hp.out]; simp
      have hp2 : p ≤ 999999999000000000 := by rw [Hp.out]; exact Nat.mul_le_mul hq (show x ≤ 999999999 by omega)
      have HM := hide (take_math hc hp2 hy)
      by_cases hlo : y < (p + c) % 1000000000
      · have hloI : (y : Int) < ((p : Int) + c) % 1000000000 := by omega
        have hcb := HM.out.2 hlo
        have HS := hide (take_step (L := L'.drop i) (W0 := L.drop i) (b := bl) (k := k) (c := c) (q := q) (d := y + 1000000000 - (p + c) % 1000000000) (c' := (p + c) / 1000000000 + 1) HDL.out HV.out (by rw [HYW.out, ← Hx.out, ← Hp.out]; omega))
        have HO := hide ((hown.set_ (i + k) (y + 1000000000)).set_ (i + k) (y + 1000000000 - (p + c) % 1000000000))
        clear hown
        go_wp2
        go_roundw
        case rel =>
          refine ⟨k + 1, (p + c) / 1000000000 + 1, L'.set (i + k) (y + 1000000000 - (p + c) % 1000000000), by go_num, by go_num, by omega, hcb, ?_, dig_set hdL' (by omega), (fun j hj => by rw [getD_set_ne (by omega)]; exact HSm.out j (by omega)), by rw [drop_set_add]; exact HS.out, grown_trans (grown_trans HG.out (grown_set _ _ _ _)) (grown_set _ _ _ _)⟩
          have h := HO.out
          rw [List.set_set, show ((y + 1000000000 : Nat) : Int) = (y : Int) + 1000000000 by omega, show ((y + 1000000000 - (p + c) % 1000000000 : Nat) : Int) = (y : Int) + 1000000000 - ((p : Int) + c) % 1000000000 by omega] at h
          exact h
        case measure => simp [intOf]; omega
      · have hloI : ¬ (y : Int) < ((p : Int) + c) % 1000000000 := by omega
        have hcb := HM.out.1
        have HS := hide (take_step (L := L'.drop i) (W0 := L.drop i) (b := bl) (k := k) (c := c) (q := q) (d := y - (p + c) % 1000000000) (c' := (p + c) / 1000000000) HDL.out HV.out (by rw [HYW.out, ← Hx.out, ← Hp.out]; omega))
        have HO := hide (hown.set_ (i + k) (y - (p + c) % 1000000000))
        clear hown
        go_wp2
        go_roundw
        case rel =>
          refine ⟨k + 1, (p + c) / 1000000000, L'.set (i + k) (y - (p + c) % 1000000000), by go_num, by go_num, by omega, hcb, ?_, dig_set hdL' (by omega), (fun j hj => by rw [getD_set_ne (by omega)]; exact HSm.out j (by omega)), by rw [drop_set_add]; exact HS.out, grown_trans HG.out (grown_set _ _ _ _)⟩
          have h := HO.out
          rw [show ((y - (p + c) % 1000000000 : Nat) : Int) = (y : Int) - ((p : Int) + c) % 1000000000 by omega] at h
          exact h
        case measure => simp [intOf]; omega
    · obtain rfl : k = m := by omega
      have HB0 : Hid (bl.getD k 0 = 0) := by show _ = _; simp [List.getD, List.getElem?_eq_none (show bl.length ≤ k by rw [← Hm.out]; exact Nat.le_refl _)]
      have HBT : Hid (bl.take (k + 1) = bl) := by show _ = _; rw [List.take_of_length_le (by rw [← Hm.out]; omega)]
      by_cases hlo : y < c
      · have hlo2 : decide ((y : Int) < (c : Int)) = true := by simp; omega
        have HS := hide (take_step (L := L'.drop i) (W0 := L.drop i) (b := bl) (k := k) (c := c) (q := q) (d := y + 1000000000 - c) (c' := 1) HDL.out HV.out (by rw [HYW.out, HB0.out]; omega))
        have HO := hide ((hown.set_ (i + k) (y + 1000000000)).set_ (i + k) (y + 1000000000 - c))
        clear hown
        go_wp2
        go_ret
        refine ⟨true, L'.set (i + k) (y + 1000000000 - c), by first | rfl | (simp; omega), ?_, dig_set hdL' (by omega), (fun j hj => by rw [getD_set_ne (by omega)]; exact HSm.out j (by omega)), by have h := HS.out; rw [HBT.out] at h; rw [drop_set_add]; exact h, grown_trans (grown_trans HG.out (grown_set _ _ _ _)) (grown_set _ _ _ _)⟩
        have h := HO.out
        rw [List.set_set, show ((y + 1000000000 : Nat) : Int) = (y : Int) + 1000000000 by omega, show ((y + 1000000000 - c : Nat) : Int) = (y : Int) + 1000000000 - (c : Int) by omega] at h
        exact h
      · have hlo2 : decide ((y : Int) < (c : Int)) = false := by simp; omega
        have HS := hide (take_step (L := L'.drop i) (W0 := L.drop i) (b := bl) (k := k) (c := c) (q := q) (d := y - c) (c' := 0) HDL.out HV.out (by rw [HYW.out, HB0.out]; omega))
        have HO := hide (hown.set_ (i + k) (y - c))
        clear hown
        go_wp2
        go_ret
        refine ⟨false, L'.set (i + k) (y - c), by first | rfl | (simp; omega), ?_, dig_set hdL' (by omega), (fun j hj => by rw [getD_set_ne (by omega)]; exact HSm.out j (by omega)), by have h := HS.out; rw [HBT.out] at h; rw [drop_set_add]; exact h, grown_trans HG.out (grown_set _ _ _ _)⟩
        have h := HO.out
        rw [show ((y - c : Nat) : Int) = (y : Int) - (c : Int) by omega] at h
        exact h

/-- What putBack leaves. -/
def RetPut (w : World) (base g i N C m vb : Nat) (L : List Nat) (e : Ending) (w' : World) : Prop := ∃ (c : Nat) (L' : List Nat), (∃ v, e = .returned v) ∧ Own w' base (.slice (some ⟨g, 0, none⟩) N C) N L' ∧ Dig L' ∧ (∀ j, (j < i ∨ i + m < j) → L'.getD j 0 = L.getD j 0) ∧ val ((L'.drop i).take (m + 1)) + bas (m + 1) * c = val ((L.drop i).take (m + 1)) + vb ∧ w.grownBy w' (some g)
set_option maxRecDepth 100000 in
set_option maxHeartbeats 4000000 in
theorem put_any (base g i N C m : Nat) (B : Option Addr) (cb cw : Nat) (L bl : List Nat) (w : World) (hown : Own w base (.slice (some ⟨g, 0, none⟩) N C) N L) (hdL : Dig L) (hB : Lim w B bl) (hdb : Dig bl) (Hm : Hid (m = bl.length)) (hfar : ∀ ad, B = some ad → ad.block ≠ g) (him : i + m + 1 ≤ N) (hN : N ≤ 2000) :
    Calls Tryz.prog 148 #[.slice (some ⟨g, i, none⟩) (m + 1 : Nat) cw, .slice B m cb] w (RetPut w base g i N C m (val bl) L) := by
  have HFar := hide hfar
  clear hfar
  go_enter Tryz.func148, Tryz.ntmps148
  go_wp2
  go_loopw [4, 10] (fun cv iv wr => ∃ (k c : Nat) (L' : List Nat), cv = .int .u32 c ∧ iv = .int .i64 k ∧ k ≤ m ∧ c ≤ 1 ∧ Own wr base (.slice (some ⟨g, 0, none⟩) N C) N L' ∧ Dig L' ∧ (∀ j, (j < i ∨ i + k ≤ j) → L'.getD j 0 = L.getD j 0) ∧ val ((L'.drop i).take k) + bas k * c = val ((L.drop i).take k) + val (bl.take k) ∧ w.grownBy wr (some g)) (fun _ iv _ => m - (intOf iv).toNat)
  case atStart => exact ⟨0, 0, L, rfl, rfl, by omega, by omega, hown, hdL, (fun _ _ => rfl), by simp [val], World.grownBy.refl w _⟩
  case round =>
    clear hown
    obtain ⟨k, c, L', rfl, rfl, hk, hc, hown, hdL', hsame, hv, hgr⟩ := hrel
    have HV := hide hv
    have HSm := hide hsame
    have HLL := hide hown.len
    have HG := hide hgr
    clear hv hsame hgr
    have hcellL := hown.cell (j := i + k) (by omega)
    have hfrL := hown.frozen (i + k)
    have hy := dig_getD hdL' (i + k)
    obtain ⟨y, Hy⟩ : ∃ y, Hid (y = L'.getD (i + k) 0) := ⟨_, rfl⟩
    rw [← Hy.out] at hcellL hy
    have HYW : Hid ((L.drop i).getD k 0 = y) := by show _ = _; rw [getD_drop, Hy.out]; exact (HSm.out (i + k) (.inr (Nat.le_refl _))).symm
    have HDL : Hid (k < (L'.drop i).length) := by show _ < _; rw [List.length_drop, HLL.out]; omega
    by_cases hgo : k < m
    · obtain ⟨bd, rfl, hb2, hcell2⟩ := (hB.grownG HG.out HFar.out).at_ (k := k) (by rw [← Hm.out]; exact hgo)
      have hx := dig_getD hdb k
      obtain ⟨x, Hx⟩ : ∃ x, Hid (x = bl.getD k 0) := ⟨_, rfl⟩
      rw [← Hx.out] at hcell2 hx
      have HS := hide (plus_step (L := L'.drop i) (a := L.drop i) (b := bl) (k := k) (c := c) (s := y + x + c) HDL.out HV.out (by rw [HYW.out, ← Hx.out]))
      have HO := hide (hown.set_ (i + k) ((y + x + c) % 1000000000))
      clear hown
      go_wp2
      go_roundw
      case rel =>
        refine ⟨k + 1, (y + x + c) / 1000000000, L'.set (i + k) ((y + x + c) % 1000000000), by go_num, by go_num, by omega, by omega, ?_, dig_set hdL' (by omega), (fun j hj => by rw [getD_set_ne (by omega)]; exact HSm.out j (by omega)), by rw [drop_set_add]; exact HS.out, grown_trans HG.out (grown_set _ _ _ _)⟩
        have h := HO.out
        rw [show (((y + x + c) % 1000000000 : Nat) : Int) = ((y : Int) + x + c) % 1000000000 by omega] at h
        exact h
      case measure => simp [intOf]; omega
    · obtain rfl : k = m := by omega
      have HB0 : Hid (bl.getD k 0 = 0) := by show _ = _; simp [List.getD, List.getElem?_eq_none (show bl.length ≤ k by rw [← Hm.out]; exact Nat.le_refl _)]
      have HBT : Hid (bl.take (k + 1) = bl) := by show _ = _; rw [List.take_of_length_le (by rw [← Hm.out]; omega)]
      have HS := hide (plus_step (L := L'.drop i) (a := L.drop i) (b := bl) (k := k) (c := c) (s := y + c) HDL.out HV.out (by rw [HYW.out, HB0.out]; omega))
      have HO := hide (hown.set_ (i + k) ((y + c) % 1000000000))
      clear hown
      go_wp2
      go_end0
      refine ⟨(y + c) / 1000000000, L'.set (i + k) ((y + c) % 1000000000), ⟨_, rfl⟩, ?_, dig_set hdL' (by omega), (fun j hj => by rw [getD_set_ne (by omega)]; exact HSm.out j (by omega)), by have h := HS.out; rw [HBT.out] at h; rw [drop_set_add]; exact h, grown_trans HG.out (grown_set _ _ _ _)⟩
      have h := HO.out
      rw [show (((y + c) % 1000000000 : Nat) : Int) = ((y : Int) + c) % 1000000000 by omega] at h
      exact h
end Go.Proofs.YtldifgfpecicnaaGreatDoor
/- The program's guess: three limbs over two. -/
namespace Go.Proofs.YtldifgfpecicnaaGreatDoor
open Go.RowKit

theorem g_more {q f r t s2 w0 p : Nat} (h : q * f + r = t) (hp : p = q * s2) (hlt : r * 1000000000 + w0 < p) : t * 1000000000 + w0 < q * (f * 1000000000 + s2) := by
  rw [Nat.mul_add, ← hp, ← Nat.mul_assoc, ← h, Nat.add_mul]
  rw [Nat.add_assoc]
  exact Nat.add_lt_add_left hlt _
theorem g_done {q f r t s2 w0 p : Nat} (h : q * f + r = t) (hp : p = q * s2) (hge : p ≤ r * 1000000000 + w0) : q * (f * 1000000000 + s2) ≤ t * 1000000000 + w0 := by
  rw [Nat.mul_add, ← hp, ← Nat.mul_assoc, ← h, Nat.add_mul]
  rw [Nat.add_assoc]
  exact Nat.add_le_add_left hge _
theorem g_bound {t f w2 w1 : Nat} (ht : t = w2 * 1000000000 + w1) (h1 : w1 < 1000000000) (h2 : w2 ≤ f) (h3 : 1 ≤ f) : t / f ≤ 2000000000 := by
  have h5 : w2 * 1000000000 ≤ f * 1000000000 := Nat.mul_le_mul_right _ h2
  have h6 : 1 * 1000000000 ≤ f * 1000000000 := Nat.mul_le_mul_right _ h3
  have h7 : t < 2000000000 * f := by
    rw [ht, show 2000000000 * f = f * 1000000000 + f * 1000000000 by rw [← Nat.mul_add, Nat.mul_comm]]
    omega
  exact Nat.le_of_lt ((Nat.div_lt_iff_lt_mul (show 0 < f by omega)).2 h7)
theorem g_start {t f w0 s2 : Nat} (h3 : 1 ≤ f) (hw0 : w0 < 1000000000) : (t * 1000000000 + w0) / (f * 1000000000 + s2) ≤ t / f := by
  have hD : 0 < f * 1000000000 + s2 := by omega
  have h1 : (t * 1000000000 + w0) / (f * 1000000000 + s2) * (f * 1000000000 + s2) ≤ t * 1000000000 + w0 := Nat.div_mul_le_self _ _
  generalize (t * 1000000000 + w0) / (f * 1000000000 + s2) = q at h1 ⊢
  refine (Nat.le_div_iff_mul_le (by omega)).2 ?_
  rw [Nat.mul_add, ← Nat.mul_assoc] at h1
  generalize q * f = z at h1 ⊢
  generalize q * s2 = y at h1
  omega
/-- What guess returns. -/
def RetU64 (w : World) (x : Nat) (e : Ending) (w' : World) : Prop := e = .returned (.int .u64 (x : Nat)) ∧ ∃ q, w' = w.drewN q
set_option maxRecDepth 100000 in
set_option maxHeartbeats 4000000 in
theorem guess_any (A B : Option Addr) (cw cb k f s2 w2 w1 w0 : Nat) (wl bl : List Nat) (w : World) (hA : Lim w A wl) (hB : Lim w B bl) (HA : Hid (k + 3 = wl.length)) (HB : Hid (k + 2 = bl.length)) (hk : k ≤ 2000)
    (Hf : Hid (f = bl.getD (k + 1) 0)) (Hs : Hid (s2 = bl.getD k 0)) (H2 : Hid (w2 = wl.getD (k + 2) 0)) (H1 : Hid (w1 = wl.getD (k + 1) 0)) (H0 : Hid (w0 = wl.getD k 0))
    (hf : f < 1000000000) (hs : s2 < 1000000000) (hw2 : w2 < 1000000000) (hw1 : w1 < 1000000000) (hw0 : w0 < 1000000000) (hf1 : 1 ≤ f) (h2f : w2 ≤ f) :
    Calls Tryz.prog 146 #[.slice A (k + 3 : Nat) cw, .slice B (k + 2 : Nat) cb] w (RetU64 w (((w2 * 1000000000 + w1) * 1000000000 + w0) / (f * 1000000000 + s2))) := by
  obtain ⟨ad, rfl, hb1, a2⟩ := hA.at_ (k := k + 2) (by rw [← HA.out]; omega)
  obtain ⟨ad', e', _, a1⟩ := hA.at_ (k := k + 1) (by rw [← HA.out]; omega)
  cases e'
  obtain ⟨ad', e', _, a0⟩ := hA.at_ (k := k) (by rw [← HA.out]; omega)
  cases e'
  obtain ⟨bd, rfl, hb2, b1⟩ := hB.at_ (k := k + 1) (by rw [← HB.out]; omega)
  obtain ⟨bd', e', _, b0⟩ := hB.at_ (k := k) (by rw [← HB.out]; omega)
  cases e'
  rw [← H2.out] at a2
  rw [← H1.out] at a1
  rw [← H0.out] at a0
  rw [← Hf.out] at b1
  rw [← Hs.out] at b0
  rw [show ad.add (k + 2) = ⟨ad.block, ad.off + (k + 2), none⟩ by simp [Addr.add]] at a2
  rw [show ad.add (k + 1) = ⟨ad.block, ad.off + (k + 1), none⟩ by simp [Addr.add]] at a1
  rw [show bd.add (k + 1) = ⟨bd.block, bd.off + (k + 1), none⟩ by simp [Addr.add]] at b1
  obtain ⟨t, Ht⟩ : ∃ t, Hid (t = w2 * 1000000000 + w1) := ⟨_, rfl⟩
  have HtI : Hid ((w2 : Int) * 1000000000 + (w1 : Int) = (t : Int)) := by show _ = _; rw [Ht.out]; simp
  have htb : t ≤ 1000000000000000000 := by rw [Ht.out]; omega
  have HQB := hide (g_bound Ht.out hw1 h2f hf1)
  have HQS := hide (g_start (t := t) (s2 := s2) hf1 hw0)
  rw [← Ht.out]
  obtain ⟨R, HR⟩ : ∃ R, Hid (R = (t * 1000000000 + w0) / (f * 1000000000 + s2)) := ⟨_, rfl⟩
  rw [← HR.out] at HQS ⊢
  have HDM := hide (Nat.div_add_mod t f)
  have HML := hide (Nat.mod_lt t (show 0 < f by omega))
  obtain ⟨q0, Hq0⟩ : ∃ q, Hid (q = t / f) := ⟨_, rfl⟩
  obtain ⟨r0, Hr0⟩ : ∃ r, Hid (r = t % f) := ⟨_, rfl⟩
  have HqI : Hid ((t : Int).tdiv (f : Int) = (q0 : Int)) := by show _ = _; rw [Hq0.out]; rfl
  have HrI : Hid ((t : Int).tmod (f : Int) = (r0 : Int)) := by show _ = _; rw [Hr0.out]; rfl
  rw [← Hq0.out, ← Hr0.out] at HDM
  rw [← Hr0.out] at HML
  rw [← Hq0.out] at HQB HQS
  clear hA hB hb1 hb2
  have i1 : IntKind.i64.wrap ((k : Int) + 2 - 1) = (k : Int) + 1 := by rw [IntKind.wrap_i64]; omega
  have i2 : IntKind.i64.wrap ((k : Int) + 2 - 2) = (k : Int) := by rw [IntKind.wrap_i64]; omega
  have i3 : ((k : Int) + 1).toNat = k + 1 := by omega
  have i4 : (0 : Int) ≤ (k : Int) + 1 := by omega
  have I1 := hide i1
  have I2 := hide i2
  have I3 := hide i3
  go_enter Tryz.func146, Tryz.ntmps146
  go_wp2
  go_quiet (fail)
  go_wp2
  go_quiet (fail)
  clear i1 i2 i3 i4
  go_wp2_with fail
  rw [HtI.out]
  have hqI := HqI.out
  have hrI := HrI.out
  have hz : ((f : Int) == 0) = false := by rw [beq_eq_false_iff_ne]; omega
  have hq0b : q0 ≤ 2000000000 := HQB.out
  have hr0b : r0 < 1000000000 := Nat.lt_of_lt_of_le HML.out (by omega)
  go_quiet (fail)
  clear hqI hrI
  go_wp2
  go_loopw [9, 10] (fun lv ov wr => ∃ (q r n : Nat), lv = .int .u64 q ∧ ov = .int .u64 r ∧ q ≤ 2000000000 ∧ r < 3000000000 ∧ q * f + r = t ∧ R ≤ q ∧ wr = w.drewN n) (fun lv _ _ => (intOf lv).toNat)
  case atStart => exact ⟨q0, r0, _, rfl, rfl, hq0b, by omega, by have := HDM.out; rw [Nat.mul_comm]; exact this, HQS.out, by rw [World.drewN_drewN, World.drewN_drewN]⟩
  case round =>
    obtain ⟨q, r, n, rfl, rfl, hq, hr, hqr, hRq, rfl⟩ := hrel
    have HQR := hide hqr
    have HRQ := hide hRq
    clear hqr hRq hq0b hr0b
    obtain ⟨p, Hp⟩ : ∃ p, Hid (p = q * s2) := ⟨_, rfl⟩
    have hxy : (q : Int) * (s2 : Int) = (p : Int) := by rw [Hp.out]; simp
    have hp : p ≤ 2000000000000000000 := by rw [Hp.out]; exact Nat.le_trans (Nat.mul_le_mul hq (show s2 ≤ 1000000000 by omega)) (by decide)
    by_cases hgo : r * 1000000000 + w0 < p
    · have hgoI : decide ((r : Int) * 1000000000 + (w0 : Int) < (p : Int)) = true := by simp; omega
      have HM := hide (g_more HQR.out Hp.out hgo)
      have hq1 : 1 ≤ q := by
        rcases Nat.eq_zero_or_pos q with h | h
        · have := Hp.out; rw [h, Nat.zero_mul] at this; omega
        · exact h
      have hr2 : r < 2000000000 := by omega
      clear hgo
      go_wp2
      go_roundw
      case rel =>
        refine ⟨q - 1, r + f, n, by first | go_num | (congr 1; omega), by first | go_num | (congr 1; omega), by omega, by omega, ?_, ?_, rfl⟩
        · have := HQR.out; obtain ⟨j, rfl⟩ : ∃ j, q = j + 1 := ⟨q - 1, by omega⟩; rw [Nat.add_mul] at this; rw [Nat.add_sub_cancel]; omega
        · have h1 := HM.out
          rw [HR.out]
          have h2 := (Nat.div_lt_iff_lt_mul (show 0 < f * 1000000000 + s2 by omega)).2 h1
          omega
      case measure => simp [intOf]; omega
    · have hgoI : decide ((r : Int) * 1000000000 + (w0 : Int) < (p : Int)) = false := by simp; omega
      have HM := hide (g_done HQR.out Hp.out (Nat.le_of_not_lt hgo))
      have HE : Hid (q = R) := by
        have h1 := HRQ.out
        have h2 := (Nat.le_div_iff_mul_le (show 0 < f * 1000000000 + s2 by omega)).2 HM.out
        rw [← HR.out] at h2
        show q = R
        omega
      clear hgo
      go_wp2
      go_ret
      exact ⟨by rw [← HE.out]; rfl, _, rfl⟩
end Go.Proofs.YtldifgfpecicnaaGreatDoor
/- The program's long: the division of limbs with a guess. -/
namespace Go.Proofs.YtldifgfpecicnaaGreatDoor
open Go.RowKit

/-- The window of a row. -/
theorem Own.window {w : World} {base g N C i m : Nat} {L : List Nat} (h : Own w base (.slice (some ⟨g, 0, none⟩) N C) N L) (hi : i + m ≤ N) : Lim w (some ⟨g, i, none⟩) ((L.drop i).take m) := by
  by_cases hm : (L.drop i).take m = []
  · exact .inl hm
  · have hl := h.len
    have hlt := (h.lt g rfl).2
    refine .inr ⟨_, rfl, hlt, fun j x hx => ?_⟩
    have hj : j < m := by
      have h1 := (List.getElem?_eq_some_iff.1 hx).1
      simp at h1
      omega
    rw [List.getElem?_take, if_pos hj, List.getElem?_drop] at hx
    have h2 := h.cell (j := i + j) (by omega)
    have ha : ((⟨g, i, none⟩ : Addr).add j) = ⟨g, i + j, none⟩ := by unfold Addr.add; split <;> simp_all
    rw [ha, h2]
    simp [List.getD, hx]
theorem getD_take {l : List Nat} {m j : Nat} (h : j < m) : (l.take m).getD j 0 = l.getD j 0 := by simp [List.getD, h]
set_option maxRecDepth 100000 in
set_option maxHeartbeats 8000000 in
theorem long_any : LongSaid := by
  intro A B ca cb a b n m w hA hB Hn Hm hn hm2 hmn hba hca hcb
  obtain ⟨k, rfl⟩ : ∃ k, m = k + 2 := ⟨m - 2, by omega⟩
  have hb0 : bas (k + 1) ≤ b := bas_le_of_len (by rw [← Hm.out]; omega)
  have htpv := val_split (lim b) (k := k + 1) (by rw [← Hm.out]; omega)
  rw [List.drop_eq_nil_of_le (by rw [← Hm.out]; omega), val, Nat.mul_zero, Nat.add_zero, val_lim] at htpv
  have hlo := val_lt (dig_take (dig_lim b) (k + 1))
  rw [List.length_take, Nat.min_eq_left (by rw [← Hm.out]; omega)] at hlo
  have htp := dig_getD (dig_lim b) (k + 1)
  obtain ⟨bd, rfl, hbb, hcb1⟩ := hB.at_ (k := k + 1) (by rw [← Hm.out]; omega)
  obtain ⟨tp, Htp⟩ : ∃ tp, Hid (tp = (lim b).getD (k + 1) 0) := ⟨_, rfl⟩
  rw [← Htp.out] at htpv htp hcb1
  rw [show bd.add (k + 1) = ⟨bd.block, bd.off + (k + 1), none⟩ by simp [Addr.add]] at hcb1
  obtain ⟨f, Hf⟩ : ∃ f, Hid (f = 1000000000 / (tp + 1)) := ⟨_, rfl⟩
  have HF := hide (factor_math htp Hf.out)
  have HFF := hide (factor_fits htpv hlo HF.out.2.2 HF.out.1)
  have hbpos : 0 < b := Nat.lt_of_lt_of_le (bas_pos _) hb0
  have hf1 : 1 ≤ f := HF.out.1
  have HfB : Hid (f < 1000000000) := by
    have h1 := HF.out.2.2
    have h2 : 1 ≤ tp := by
      rcases Nat.eq_zero_or_pos tp with h | h
      · rw [h] at htpv; omega
      · exact h
    rcases Nat.lt_or_ge f 1000000000 with h | h
    · exact h
    · have : (tp + 1) * 1000000000 ≤ (tp + 1) * f := Nat.mul_le_mul_left _ h
      omega
  have hfB := HfB.out
  have HfJ : Hid ((1000000000 : Int) / ((tp : Int) + 1) = (f : Int)) := by show _ = _; rw [Hf.out]; rfl
  have HfK : Hid ((1000000000 : Int) / ((tp : Int) + 1) % 4294967296 = (f : Int)) := by show _ = _; rw [HfJ.out]; omega
  have HAlt : Hid (a < bas n) := by show _ < _; rw [Hn.out]; exact lim_lt_bas a
  have HAf : Hid (a * f < bas (n + 1)) := by
    show _ < _
    have h1 : a * f < bas n * f := Nat.mul_lt_mul_of_pos_right HAlt.out hf1
    have h2 : bas n * f ≤ bas n * 1000000000 := Nat.mul_le_mul_left _ (by omega)
    have h3 : bas (n + 1) = bas n * 1000000000 := Nat.mul_comm _ _
    omega
  have HB0 := hide hb0
  have HBA := hide hba
  clear htpv hlo hb0 hba
  go_enter Tryz.func133, Tryz.ntmps133
  go_wp2_with fail
  rw [HfK.out, HfJ.out, show ((n : Int) + 1) = ((n + 1 : Nat) : Int) by omega]
  refine (scale_any A ca a f n (n + 1) _ hA Hn (by omega) (by omega) hfB HAf).mono ?_
  rintro e w1 ⟨R0, rfl, hownR, hdR0, hvR0, hup1⟩
  have HVR0 := hide hvR0
  have hlt1 := (hownR.lt _ rfl).2
  clear hvR0
  go_wp2_with fail
  rw [show ((k : Int) + 2) = ((k + 2 : Nat) : Int) by omega]
  refine (scale_any (some bd) cb b f (k + 2) (k + 2) _ (hB.up hup1) Hm (by omega) (by omega) hfB HFF).mono ?_
  rintro e w2 ⟨bl, rfl, hownB, hdB, hvB, hup2⟩
  have HVB := hide hvB
  have HBL := hide hownB.len
  have hlt2 := (hownB.lt _ rfl).2
  obtain ⟨hlimB, _⟩ := hownB.lim'
  have hownR := hownR.up hup2
  clear hvB hownB
  obtain ⟨nq, Hnq⟩ : ∃ nq, Hid (nq = n - (k + 2) + 1) := ⟨_, rfl⟩
  have hnq1 : nq + (k + 2) = n + 1 := by rw [Hnq.out]; omega
  have HNQ := hide hnq1
  have hnq2 : nq ≤ 1001 := by omega
  have hnq3 : 1 ≤ nq := by omega
  clear hnq1
  go_wp2_with (at_make; refine wp_mk rfl _ _ rfl w.heap.size nq _ _ _ _ rfl rfl (by have := HNQ.out; omega) (by have := HNQ.out; omega) (by omega) (by omega) ?_; intro w3 hownQ hup3 hlt3)
  have hownR := hownR.up hup3
  have hlimB := hlimB.up hup3
  have hupw := (hup1.trans hup2).trans hup3
  clear hup1 hup2 hup3 hlt3
  go_wp2
  go_loopw [7] (fun iv wr => ∃ (j : Int) (p : Nat) (R Q : List Nat), iv = .int .i64 j ∧ j + 1 = p ∧ p ≤ nq ∧ Own wr w.heap.size (.slice (some ⟨w.heap.size, 0, none⟩) (n + 1) (n + 1)) (n + 1) R ∧ Own wr w.heap.size (.slice (some ⟨w2.heap.size, 0, none⟩) nq nq) nq Q ∧ Lim wr (some ⟨w1.heap.size, 0, none⟩) bl ∧ Dig R ∧ Dig Q ∧ (∀ q, q < p → R.getD q 0 = R0.getD q 0) ∧ val (R0.drop p) = val (Q.drop p) * (b * f) + val (R.drop p) ∧ val (R.drop p) < b * f ∧ Up w wr) (fun iv _ => (intOf iv + 1).toNat)
  case atStart => exact ⟨_, nq, R0, List.replicate nq 0, rfl, by omega, Nat.le_refl _, hownR, hownQ, hlimB, hdR0, dig_replicate _, (fun _ _ => rfl), by rw [show (List.replicate nq (0 : Nat)).drop nq = [] by simp]; simp [val], by rw [Hnq.out]; exact long_start HVR0.out hownR.len HAlt.out HB0.out hmn hf1, hupw⟩
  case round =>
    have HLR0 := hide hownR.len
    clear hownR hownQ hlimB hupw
    obtain ⟨j, p, R, Q, rfl, hj, hp, hownR, hownQ, hlimB, hdR, hdQ, hsame, hv, hr, hupw⟩ := hrel
    have HSm := hide hsame
    have HV := hide hv
    have HR := hide hr
    have HLR := hide hownR.len
    have HLQ := hide hownQ.len
    clear hsame hv hr
    by_cases hpos : 0 < p
    · obtain ⟨i, rfl⟩ : ∃ i, p = i + 1 := ⟨p - 1, by omega⟩
      obtain rfl : j = (i : Int) := by omega
      have hiN : i + (k + 2) + 1 ≤ n + 1 := by have := HNQ.out; omega
      have HW := hide (long_round HLR.out hiN hdR (HSm.out i (by omega)) HR.out HFF.out)
      clear hj hpos
      go_wp2_with fail
      rw [show i + (k + 2) + 1 - i = k + 3 by omega]
      have HWL : Hid (((R.drop i).take (k + 3)).length = k + 3) := by show _ = _; rw [List.length_take, List.length_drop, HLR.out]; omega
      obtain ⟨WL, HWLe⟩ : ∃ l, Hid (l = (R.drop i).take (k + 3)) := ⟨_, rfl⟩
      have hdWL : Dig WL := by rw [HWLe.out]; exact dig_take (dig_drop hdR i) _
      have hwin : Lim wr (some ⟨w.heap.size, i, none⟩) WL := by rw [HWLe.out]; exact hownR.window (by omega)
      have HW1 : Hid (val WL = R0.getD i 0 + 1000000000 * val (R.drop (i + 1))) := by show _ = _; rw [HWLe.out]; exact HW.out.1
      have HW3 : Hid (val WL < 1000000000 * (b * f)) := by show _ < _; rw [HWLe.out]; exact HW.out.2.2
      rw [← HWLe.out] at HWL
      have hbig : bas (k + 1) ≤ b * f := Nat.le_trans HB0.out (Nat.le_mul_of_pos_right _ hf1)
      have HGV := hide (guess_vals HWL.out HBL.out hdWL hdB HVB.out HW3.out hbig)
      clear hbig
      obtain ⟨fb, Hfb⟩ : ∃ x, Hid (x = bl.getD (k + 1) 0) := ⟨_, rfl⟩
      obtain ⟨s2, Hs2⟩ : ∃ x, Hid (x = bl.getD k 0) := ⟨_, rfl⟩
      obtain ⟨u2, Hu2⟩ : ∃ x, Hid (x = WL.getD (k + 2) 0) := ⟨_, rfl⟩
      obtain ⟨u1, Hu1⟩ : ∃ x, Hid (x = WL.getD (k + 1) 0) := ⟨_, rfl⟩
      obtain ⟨u0, Hu0⟩ : ∃ x, Hid (x = WL.getD k 0) := ⟨_, rfl⟩
      have hfb := dig_getD hdB (k + 1)
      have hs2 := dig_getD hdB k
      have hu2 := dig_getD hdWL (k + 2)
      have hu1 := dig_getD hdWL (k + 1)
      have hu0 := dig_getD hdWL k
      rw [← Hfb.out] at hfb HGV
      rw [← Hs2.out] at hs2 HGV
      rw [← Hu2.out] at hu2 HGV
      rw [← Hu1.out] at hu1 HGV
      rw [← Hu0.out] at hu0 HGV
      refine (guess_any (some ⟨w.heap.size, i, none⟩) (some ⟨w1.heap.size, 0, none⟩) (n + 1 - i) (k + 2) k fb s2 u2 u1 u0 WL bl _ hwin hlimB (hide HWL.out.symm) (hide HBL.out.symm) (by omega) Hfb Hs2 Hu2 Hu1 Hu0 hfb hs2 hu2 hu1 hu0 HGV.out.1 HGV.out.2.1).mono ?_
      rintro e wg ⟨rfl, qd, rfl⟩
      obtain ⟨g, Hg⟩ : ∃ g, Hid (g = ((u2 * 1000000000 + u1) * 1000000000 + u0) / (fb * 1000000000 + s2)) := ⟨_, rfl⟩
      rw [← Hg.out] at HGV ⊢
      have hgB : g ≤ 1000000000 := HGV.out.2.2.2.2
      have hupq : Up wr (wr.drewN qd) := (Up.refl wr).drewN qd
      have hfar : ∀ ad, (some ⟨w1.heap.size, 0, none⟩ : Option Addr) = some ad → ad.block ≠ w.heap.size := fun ad e => by cases e; show w1.heap.size ≠ w.heap.size; omega
      have HFar := hide hfar
      clear hfar hfb hs2 hu2 hu1 hu0 hwin Hfb Hs2 Hu2 Hu1 Hu0 Hg
      go_wp2_with fail
      refine (take_any w.heap.size w.heap.size i (n + 1) (n + 1) (k + 2) g (some ⟨w1.heap.size, 0, none⟩) (k + 2) (n + 1 - i) R bl _ (hownR.up hupq) hdR (hlimB.up hupq) hdB (hide HBL.out.symm) HFar.out (by omega) (by omega) hgB).mono ?_
      rintro e wt ⟨neg, R1, rfl, hownR1, hdR1, hsm1, hv1, hgr1⟩
      have HS1 := hide hsm1
      have HV1 := hide hv1
      have HL1 := hide hownR1.len
      have hupt := (hupw.drewN qd).grown hgr1 (fun k e => by cases e; exact Nat.le_refl _)
      have hownQ1 := (hownQ.up hupq).grown hgr1 (by simp [Value.ownBlock]; omega)
      have hlimB1 := (hlimB.up hupq).grownG hgr1 HFar.out
      clear hsm1 hv1 hownR hownQ hlimB hupw hupq hgr1
      have HL1v : Hid (val ((R1.drop i).take (k + 3)) < bas (k + 3)) := by
        have := val_lt (dig_take (dig_drop hdR1 i) (k + 3))
        rw [List.length_take, List.length_drop, HL1.out, Nat.min_eq_left (by omega)] at this
        exact this
      cases neg with
      | false =>
        have HGE := hide (guess_end (W := val WL) (b := b * f) (g := g) (B := bas (k + 3)) (L1 := val ((R1.drop i).take (k + 3))) (L2 := val ((R1.drop i).take (k + 3))) (c := 0) (neg := false) (Nat.lt_of_lt_of_le HFF.out (bas_mono (by omega))) (Nat.mul_pos hbpos hf1) HGV.out.2.2.1 HGV.out.2.2.2.1 (by have := HV1.out; rw [HVB.out, ← HWLe.out] at this; exact this) HL1v.out (fun h => by cases h) HL1v.out (fun _ => rfl))
        have HQE : Hid (g = val WL / (b * f)) := HGE.out.1
        have HRE : Hid (val (R1.drop i) = val WL % (b * f)) := long_next HLR.out HL1.out HW.out.2.1 HS1.out HGE.out.2
        have hgl : g < 1000000000 := by
          rw [HQE.out]
          exact (Nat.div_lt_iff_lt_mul (Nat.mul_pos hbpos hf1)).2 HW3.out
        have hcellQ := hownQ1.cell (j := i) (by omega)
        have hfrQ := hownQ1.frozen i
        have HO := hide (hownQ1.set_ i (g))
        have hownR9 := hide (hownR1.grown (grown_set _ w2.heap.size i (.int .u32 ((g : Nat) : Int))) (by simp [Value.ownBlock]; omega))
        have hlimB9 := hide (hlimB1.grownG (grown_set _ w2.heap.size i (.int .u32 ((g : Nat) : Int))) (fun ad e => by cases e; show w1.heap.size ≠ w2.heap.size; omega))
        have hup9 := hide (hupt.setCell (p := ⟨w2.heap.size, i, none⟩) (by show w.heap.size ≤ w2.heap.size; omega) (.int .u32 ((g : Nat) : Int)))
        clear hownQ1 hownR1 hlimB1
        go_wp2
        go_roundw
        case rel =>
          have e9 : ((g : Nat) : Int) = (g : Int) := by omega
          have h1 := HO.out
          have h2 := hownR9.out
          have h3 := hlimB9.out
          have h4 := hup9.out
          rw [e9] at h1 h2 h3 h4
          exact ⟨_, i, R1, Q.set i (g), rfl, by omega, by omega, h2, h1, h3, hdR1, dig_set hdQ hgl, fun q hq => (HS1.out q (.inl hq)).trans (HSm.out q (by omega)), long_keep HW1.out HV.out HQE.out HRE.out (by rw [HLR0.out]; omega) (by rw [HLQ.out]; omega), by rw [HRE.out]; exact Nat.mod_lt _ (Nat.mul_pos hbpos hf1), h4⟩
        case measure => simp [intOf]
      | true =>
        go_wp2_with fail
        refine (put_any w.heap.size w.heap.size i (n + 1) (n + 1) (k + 2) (some ⟨w1.heap.size, 0, none⟩) (k + 2) (n + 1 - i) R1 bl _ hownR1 hdR1 hlimB1 hdB (hide HBL.out.symm) HFar.out (by omega) (by omega)).mono ?_
        rintro e wu ⟨c2, R2, ⟨v2, rfl⟩, hownR2, hdR2, hsm2, hv2, hgr2⟩
        have HS2 : Hid (∀ j, (j < i ∨ i + (k + 2) < j) → R2.getD j 0 = R.getD j 0) := fun j hj => (hsm2 j hj).trans (HS1.out j hj)
        have HV2 := hide hv2
        have HL2 := hide hownR2.len
        have hupu := hupt.grown hgr2 (fun k e => by cases e; exact Nat.le_refl _)
        have hownQ2 := hownQ1.grown hgr2 (by simp [Value.ownBlock]; omega)
        have hlimB2 := hlimB1.grownG hgr2 HFar.out
        clear hsm2 hv2 hownR1 hownQ1 hlimB1 hupt hgr2
        have HL2v : Hid (val ((R2.drop i).take (k + 3)) < bas (k + 3)) := by
          have := val_lt (dig_take (dig_drop hdR2 i) (k + 3))
          rw [List.length_take, List.length_drop, HL2.out, Nat.min_eq_left (by omega)] at this
          exact this
        have HGE := hide (guess_end (W := val WL) (b := b * f) (g := g) (B := bas (k + 3)) (L1 := val ((R1.drop i).take (k + 3))) (L2 := val ((R2.drop i).take (k + 3))) (c := c2) (neg := true) (Nat.lt_of_lt_of_le HFF.out (bas_mono (by omega))) (Nat.mul_pos hbpos hf1) HGV.out.2.2.1 HGV.out.2.2.2.1 (by have := HV1.out; rw [HVB.out, ← HWLe.out] at this; exact this) HL1v.out (fun _ => by have := HV2.out; rw [HVB.out] at this; exact this) HL2v.out (fun h => by cases h))
        have HQE : Hid (g - 1 = val WL / (b * f)) := HGE.out.1
        have HRE : Hid (val (R2.drop i) = val WL % (b * f)) := long_next HLR.out HL2.out HW.out.2.1 HS2.out HGE.out.2
        have hg1 : 1 ≤ g := by
          rcases Nat.eq_zero_or_pos g with h | h
          · exfalso
            have h1 : val ((R1.drop i).take (k + 3)) + g * val bl = val ((R.drop i).take (k + 3)) + bas (k + 3) * 1 := HV1.out
            have h2 := HL1v.out
            rw [h, Nat.zero_mul, Nat.mul_one] at h1
            omega
          · exact h
        have hgl : g - 1 < 1000000000 := by
          rw [HQE.out]
          exact (Nat.div_lt_iff_lt_mul (Nat.mul_pos hbpos hf1)).2 HW3.out
        have hcellQ := hownQ2.cell (j := i) (by omega)
        have hfrQ := hownQ2.frozen i
        have HO := hide (hownQ2.set_ i (g - 1))
        have hownR9 := hide (hownR2.grown (grown_set _ w2.heap.size i (.int .u32 ((g - 1 : Nat) : Int))) (by simp [Value.ownBlock]; omega))
        have hlimB9 := hide (hlimB2.grownG (grown_set _ w2.heap.size i (.int .u32 ((g - 1 : Nat) : Int))) (fun ad e => by cases e; show w1.heap.size ≠ w2.heap.size; omega))
        have hup9 := hide (hupu.setCell (p := ⟨w2.heap.size, i, none⟩) (by show w.heap.size ≤ w2.heap.size; omega) (.int .u32 ((g - 1 : Nat) : Int)))
        clear hownQ2 hownR2 hlimB2
        go_wp2
        go_roundw
        case rel =>
          have e9 : ((g - 1 : Nat) : Int) = ((g : Int) - 1) := by omega
          have h1 := HO.out
          have h2 := hownR9.out
          have h3 := hlimB9.out
          have h4 := hup9.out
          rw [e9] at h1 h2 h3 h4
          exact ⟨_, i, R2, Q.set i (g - 1), rfl, by omega, by omega, h2, h1, h3, hdR2, dig_set hdQ hgl, fun q hq => (HS2.out q (.inl hq)).trans (HSm.out q (by omega)), long_keep HW1.out HV.out HQE.out HRE.out (by rw [HLR0.out]; omega) (by rw [HLQ.out]; omega), by rw [HRE.out]; exact Nat.mod_lt _ (Nat.mul_pos hbpos hf1), h4⟩
        case measure => simp [intOf]
    · obtain rfl : p = 0 := by omega
      obtain rfl : j = -1 := by omega
      have HE := hide (long_end (a := a) (b := b) (f := f) (Q := val Q) (R := val R) hf1 hbpos (by have := HV.out; simp only [List.drop_zero] at this; rw [← HVR0.out]; exact this) (by have := HR.out; simpa using this))
      obtain ⟨hlimR, _⟩ := hownR.lim'
      obtain ⟨hlimQ, _⟩ := hownQ.lim'
      clear hlimB hownR hownQ
      go_wp2_with fail
      refine (trim_lim' _ _ _ _ hlimR (n + 1) (val R) HLR.out hdR rfl (by omega) (Nat.le_refl _)).mono ?_
      rintro e w5 ⟨⟨n5, rfl, Hn5, hlim5, hc5⟩, rfl⟩
      go_wp2_with fail
      refine (short_any _ (n + 1) n5 (val R) f _ hlim5 Hn5 (by omega) hf1 hfB).mono ?_
      rintro e w6 ⟨A6, n6, c6, A7, n7, c7, rfl, Hn6, _, hl6, _, hc6, _, hnew6, _, hup6⟩
      rw [HE.out.2] at Hn6 hl6
      go_wp2_with fail
      refine (trim_lim' _ _ _ _ (hlimQ.up hup6) nq (a / b) HLQ.out hdQ HE.out.1 (by omega) (Nat.le_refl _)).mono ?_
      rintro e w7 ⟨⟨n7', rfl, Hn7, hlim7, hc7'⟩, rfl⟩
      go_wp2
      go_ret2
      exact ⟨_, n7', nq, A6, n6, c6, rfl, Hn7, Hn6, hlim7, hl6, hc7', hc6, fun ad e => by cases e; show w.heap.size ≤ w2.heap.size; omega, hnew6.mono hupw.size, hupw.trans hup6⟩
end Go.Proofs.YtldifgfpecicnaaGreatDoor
