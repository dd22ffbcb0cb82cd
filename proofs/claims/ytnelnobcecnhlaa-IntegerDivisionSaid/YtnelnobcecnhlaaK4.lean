/- The program's long: the division of limbs with a guess. -/
import Derived.Test.YtnelnobcecnhlaaK2
import Derived.Test.YtnelnobcecnhlaaMath8
import Derived.Test.YtnelnobcecnhlaaF1
namespace Go.Proofs.Ytnelnobcecnhlaa
open Go.RowKit

/-- The window of a row. -/
theorem Own.window {w : World} {base g N C i m : Nat} {L : List Nat} (h : Own w base (.slice (some ⟨g, 0, none⟩) N C) N L) (hi : i + m ≤ N) : Lim w (some ⟨g, i, none⟩) ((L.drop i).take m) := by
  by_cases hm : (L.drop i).take m = []
  · exact .inl hm
  · have hl := h.len
    have hlt := (h.lt g rfl).2
    refine .inr ⟨_, rfl, hlt, fun j x hx => ?_⟩
    have hj : j < m := by
      have h1 := (List.getElem?_eq_some_iff.1 hx).1
      simp at h1
      omega
    rw [List.getElem?_take, if_pos hj, List.getElem?_drop] at hx
    have h2 := h.cell (j := i + j) (by omega)
    have ha : ((⟨g, i, none⟩ : Addr).add j) = ⟨g, i + j, none⟩ := by unfold Addr.add; split <;> simp_all
    rw [ha, h2]
    simp [List.getD, hx]
theorem getD_take {l : List Nat} {m j : Nat} (h : j < m) : (l.take m).getD j 0 = l.getD j 0 := by simp [List.getD, h]
set_option maxRecDepth 100000 in
set_option maxHeartbeats 8000000 in
theorem long_any : LongSaid := by
  intro A B ca cb a b n m w hA hB Hn Hm hn hm2 hmn hba hca hcb
  obtain ⟨k, rfl⟩ : ∃ k, m = k + 2 := ⟨m - 2, by omega⟩
  have hb0 : bas (k + 1) ≤ b := bas_le_of_len (by rw [← Hm.out]; omega)
  have htpv := val_split (lim b) (k := k + 1) (by rw [← Hm.out]; omega)
  rw [List.drop_eq_nil_of_le (by rw [← Hm.out]; omega), val, Nat.mul_zero, Nat.add_zero, val_lim] at htpv
  have hlo := val_lt (dig_take (dig_lim b) (k + 1))
  rw [List.length_take, Nat.min_eq_left (by rw [← Hm.out]; omega)] at hlo
  have htp := dig_getD (dig_lim b) (k + 1)
  obtain ⟨bd, rfl, hbb, hcb1⟩ := hB.at_ (k := k + 1) (by rw [← Hm.out]; omega)
  obtain ⟨tp, Htp⟩ : ∃ tp, Hid (tp = (lim b).getD (k + 1) 0) := ⟨_, rfl⟩
  rw [← Htp.out] at htpv htp hcb1
  rw [show bd.add (k + 1) = ⟨bd.block, bd.off + (k + 1), none⟩ by simp [Addr.add]] at hcb1
  obtain ⟨f, Hf⟩ : ∃ f, Hid (f = 1000000000 / (tp + 1)) := ⟨_, rfl⟩
  have HF := hide (factor_math htp Hf.out)
  have HFF := hide (factor_fits htpv hlo HF.out.2.2 HF.out.1)
  have hbpos : 0 < b := Nat.lt_of_lt_of_le (bas_pos _) hb0
  have hf1 : 1 ≤ f := HF.out.1
  have HfB : Hid (f < 1000000000) := by
    have h1 := HF.out.2.2
    have h2 : 1 ≤ tp := by
      rcases Nat.eq_zero_or_pos tp with h | h
      · rw [h] at htpv; omega
      · exact h
    rcases Nat.lt_or_ge f 1000000000 with h | h
    · exact h
    · have : (tp + 1) * 1000000000 ≤ (tp + 1) * f := Nat.mul_le_mul_left _ h
      omega
  have hfB := HfB.out
  have HfJ : Hid ((1000000000 : Int) / ((tp : Int) + 1) = (f : Int)) := by show _ = _; rw [Hf.out]; rfl
  have HfK : Hid ((1000000000 : Int) / ((tp : Int) + 1) % 4294967296 = (f : Int)) := by show _ = _; rw [HfJ.out]; omega
  have HAlt : Hid (a < bas n) := by show _ < _; rw [Hn.out]; exact lim_lt_bas a
  have HAf : Hid (a * f < bas (n + 1)) := by
    show _ < _
    have h1 : a * f < bas n * f := Nat.mul_lt_mul_of_pos_right HAlt.out hf1
    have h2 : bas n * f ≤ bas n * 1000000000 := Nat.mul_le_mul_left _ (by omega)
    have h3 : bas (n + 1) = bas n * 1000000000 := Nat.mul_comm _ _
    omega
  have HB0 := hide hb0
  have HBA := hide hba
  clear htpv hlo hb0 hba
  go_enter Try.func72, Try.ntmps72
  go_wp2_with fail
  rw [HfK.out, HfJ.out, show ((n : Int) + 1) = ((n + 1 : Nat) : Int) by omega]
  refine (scale_any A ca a f n (n + 1) _ hA Hn (by omega) (by omega) hfB HAf).mono ?_
  rintro e w1 ⟨R0, rfl, hownR, hdR0, hvR0, hup1⟩
  have HVR0 := hide hvR0
  have hlt1 := (hownR.lt _ rfl).2
  clear hvR0
  go_wp2_with fail
  rw [show ((k : Int) + 2) = ((k + 2 : Nat) : Int) by omega]
  refine (scale_any (some bd) cb b f (k + 2) (k + 2) _ (hB.up hup1) Hm (by omega) (by omega) hfB HFF).mono ?_
  rintro e w2 ⟨bl, rfl, hownB, hdB, hvB, hup2⟩
  have HVB := hide hvB
  have HBL := hide hownB.len
  have hlt2 := (hownB.lt _ rfl).2
  obtain ⟨hlimB, _⟩ := hownB.lim'
  have hownR := hownR.up hup2
  clear hvB hownB
  obtain ⟨nq, Hnq⟩ : ∃ nq, Hid (nq = n - (k + 2) + 1) := ⟨_, rfl⟩
  have hnq1 : nq + (k + 2) = n + 1 := by rw [Hnq.out]; omega
  have HNQ := hide hnq1
  have hnq2 : nq ≤ 1001 := by omega
  have hnq3 : 1 ≤ nq := by omega
  clear hnq1
  go_wp2_with (at_make; refine wp_mk rfl _ _ rfl w.heap.size nq _ _ _ _ rfl rfl (by have := HNQ.out; omega) (by have := HNQ.out; omega) (by omega) (by omega) ?_; intro w3 hownQ hup3 hlt3)
  have hownR := hownR.up hup3
  have hlimB := hlimB.up hup3
  have hupw := (hup1.trans hup2).trans hup3
  clear hup1 hup2 hup3 hlt3
  go_wp2
  go_loopw [7] (fun iv wr => ∃ (j : Int) (p : Nat) (R Q : List Nat), iv = .int .i64 j ∧ j + 1 = p ∧ p ≤ nq ∧ Own wr w.heap.size (.slice (some ⟨w.heap.size, 0, none⟩) (n + 1) (n + 1)) (n + 1) R ∧ Own wr w.heap.size (.slice (some ⟨w2.heap.size, 0, none⟩) nq nq) nq Q ∧ Lim wr (some ⟨w1.heap.size, 0, none⟩) bl ∧ Dig R ∧ Dig Q ∧ (∀ q, q < p → R.getD q 0 = R0.getD q 0) ∧ val (R0.drop p) = val (Q.drop p) * (b * f) + val (R.drop p) ∧ val (R.drop p) < b * f ∧ Up w wr) (fun iv _ => (intOf iv + 1).toNat)
  case atStart => exact ⟨_, nq, R0, List.replicate nq 0, rfl, by omega, Nat.le_refl _, hownR, hownQ, hlimB, hdR0, dig_replicate _, (fun _ _ => rfl), by rw [show (List.replicate nq (0 : Nat)).drop nq = [] by simp]; simp [val], by rw [Hnq.out]; exact long_start HVR0.out hownR.len HAlt.out HB0.out hmn hf1, hupw⟩
  case round =>
    have HLR0 := hide hownR.len
    clear hownR hownQ hlimB hupw
    obtain ⟨j, p, R, Q, rfl, hj, hp, hownR, hownQ, hlimB, hdR, hdQ, hsame, hv, hr, hupw⟩ := hrel
    have HSm := hide hsame
    have HV := hide hv
    have HR := hide hr
    have HLR := hide hownR.len
    have HLQ := hide hownQ.len
    clear hsame hv hr
    by_cases hpos : 0 < p
    · obtain ⟨i, rfl⟩ : ∃ i, p = i + 1 := ⟨p - 1, by omega⟩
      obtain rfl : j = (i : Int) := by omega
      have hiN : i + (k + 2) + 1 ≤ n + 1 := by have := HNQ.out; omega
      have HW := hide (long_round HLR.out hiN hdR (HSm.out i (by omega)) HR.out HFF.out)
      clear hj hpos
      go_wp2_with fail
      rw [show i + (k + 2) + 1 - i = k + 3 by omega]
      have HWL : Hid (((R.drop i).take (k + 3)).length = k + 3) := by show _ = _; rw [List.length_take, List.length_drop, HLR.out]; omega
      obtain ⟨WL, HWLe⟩ : ∃ l, Hid (l = (R.drop i).take (k + 3)) := ⟨_, rfl⟩
      have hdWL : Dig WL := by rw [HWLe.out]; exact dig_take (dig_drop hdR i) _
      have hwin : Lim wr (some ⟨w.heap.size, i, none⟩) WL := by rw [HWLe.out]; exact hownR.window (by omega)
      have HW1 : Hid (val WL = R0.getD i 0 + 1000000000 * val (R.drop (i + 1))) := by show _ = _; rw [HWLe.out]; exact HW.out.1
      have HW3 : Hid (val WL < 1000000000 * (b * f)) := by show _ < _; rw [HWLe.out]; exact HW.out.2.2
      rw [← HWLe.out] at HWL
      have hbig : bas (k + 1) ≤ b * f := Nat.le_trans HB0.out (Nat.le_mul_of_pos_right _ hf1)
      have HGV := hide (guess_vals HWL.out HBL.out hdWL hdB HVB.out HW3.out hbig)
      clear hbig
      obtain ⟨fb, Hfb⟩ : ∃ x, Hid (x = bl.getD (k + 1) 0) := ⟨_, rfl⟩
      obtain ⟨s2, Hs2⟩ : ∃ x, Hid (x = bl.getD k 0) := ⟨_, rfl⟩
      obtain ⟨u2, Hu2⟩ : ∃ x, Hid (x = WL.getD (k + 2) 0) := ⟨_, rfl⟩
      obtain ⟨u1, Hu1⟩ : ∃ x, Hid (x = WL.getD (k + 1) 0) := ⟨_, rfl⟩
      obtain ⟨u0, Hu0⟩ : ∃ x, Hid (x = WL.getD k 0) := ⟨_, rfl⟩
      have hfb := dig_getD hdB (k + 1)
      have hs2 := dig_getD hdB k
      have hu2 := dig_getD hdWL (k + 2)
      have hu1 := dig_getD hdWL (k + 1)
      have hu0 := dig_getD hdWL k
      rw [← Hfb.out] at hfb HGV
      rw [← Hs2.out] at hs2 HGV
      rw [← Hu2.out] at hu2 HGV
      rw [← Hu1.out] at hu1 HGV
      rw [← Hu0.out] at hu0 HGV
      refine (guess_any (some ⟨w.heap.size, i, none⟩) (some ⟨w1.heap.size, 0, none⟩) (n + 1 - i) (k + 2) k fb s2 u2 u1 u0 WL bl _ hwin hlimB (hide HWL.out.symm) (hide HBL.out.symm) (by omega) Hfb Hs2 Hu2 Hu1 Hu0 hfb hs2 hu2 hu1 hu0 HGV.out.1 HGV.out.2.1).mono ?_
      rintro e wg ⟨rfl, qd, rfl⟩
      obtain ⟨g, Hg⟩ : ∃ g, Hid (g = ((u2 * 1000000000 + u1) * 1000000000 + u0) / (fb * 1000000000 + s2)) := ⟨_, rfl⟩
      rw [← Hg.out] at HGV ⊢
      have hgB : g ≤ 1000000000 := HGV.out.2.2.2.2
      have hupq : Up wr (wr.drewN qd) := (Up.refl wr).drewN qd
      have hfar : ∀ ad, (some ⟨w1.heap.size, 0, none⟩ : Option Addr) = some ad → ad.block ≠ w.heap.size := fun ad e => by cases e; show w1.heap.size ≠ w.heap.size; omega
      have HFar := hide hfar
      clear hfar hfb hs2 hu2 hu1 hu0 hwin Hfb Hs2 Hu2 Hu1 Hu0 Hg
      go_wp2_with fail
      refine (take_any w.heap.size w.heap.size i (n + 1) (n + 1) (k + 2) g (some ⟨w1.heap.size, 0, none⟩) (k + 2) (n + 1 - i) R bl _ (hownR.up hupq) hdR (hlimB.up hupq) hdB (hide HBL.out.symm) HFar.out (by omega) (by omega) hgB).mono ?_
      rintro e wt ⟨neg, R1, rfl, hownR1, hdR1, hsm1, hv1, hgr1⟩
      have HS1 := hide hsm1
      have HV1 := hide hv1
      have HL1 := hide hownR1.len
      have hupt := (hupw.drewN qd).grown hgr1 (fun k e => by cases e; exact Nat.le_refl _)
      have hownQ1 := (hownQ.up hupq).grown hgr1 (by simp [Value.ownBlock]; omega)
      have hlimB1 := (hlimB.up hupq).grownG hgr1 HFar.out
      clear hsm1 hv1 hownR hownQ hlimB hupw hupq hgr1
      have HL1v : Hid (val ((R1.drop i).take (k + 3)) < bas (k + 3)) := by
        have := val_lt (dig_take (dig_drop hdR1 i) (k + 3))
        rw [List.length_take, List.length_drop, HL1.out, Nat.min_eq_left (by omega)] at this
        exact this
      cases neg with
      | false =>
        have HGE := hide (guess_end (W := val WL) (b := b * f) (g := g) (B := bas (k + 3)) (L1 := val ((R1.drop i).take (k + 3))) (L2 := val ((R1.drop i).take (k + 3))) (c := 0) (neg := false) (Nat.lt_of_lt_of_le HFF.out (bas_mono (by omega))) (Nat.mul_pos hbpos hf1) HGV.out.2.2.1 HGV.out.2.2.2.1 (by have := HV1.out; rw [HVB.out, ← HWLe.out] at this; exact this) HL1v.out (fun h => by cases h) HL1v.out (fun _ => rfl))
        have HQE : Hid (g = val WL / (b * f)) := HGE.out.1
        have HRE : Hid (val (R1.drop i) = val WL % (b * f)) := long_next HLR.out HL1.out HW.out.2.1 HS1.out HGE.out.2
        have hgl : g < 1000000000 := by
          rw [HQE.out]
          exact (Nat.div_lt_iff_lt_mul (Nat.mul_pos hbpos hf1)).2 HW3.out
        have hcellQ := hownQ1.cell (j := i) (by omega)
        have hfrQ := hownQ1.frozen i
        have HO := hide (hownQ1.set_ i (g))
        have hownR9 := hide (hownR1.grown (grown_set _ w2.heap.size i (.int .u32 ((g : Nat) : Int))) (by simp [Value.ownBlock]; omega))
        have hlimB9 := hide (hlimB1.grownG (grown_set _ w2.heap.size i (.int .u32 ((g : Nat) : Int))) (fun ad e => by cases e; show w1.heap.size ≠ w2.heap.size; omega))
        have hup9 := hide (hupt.setCell (p := ⟨w2.heap.size, i, none⟩) (by show w.heap.size ≤ w2.heap.size; omega) (.int .u32 ((g : Nat) : Int)))
        clear hownQ1 hownR1 hlimB1
        go_wp2
        go_roundw
        case rel =>
          have e9 : ((g : Nat) : Int) = (g : Int) := by omega
          have h1 := HO.out
          have h2 := hownR9.out
          have h3 := hlimB9.out
          have h4 := hup9.out
          rw [e9] at h1 h2 h3 h4
          exact ⟨_, i, R1, Q.set i (g), rfl, by omega, by omega, h2, h1, h3, hdR1, dig_set hdQ hgl, fun q hq => (HS1.out q (.inl hq)).trans (HSm.out q (by omega)), long_keep HW1.out HV.out HQE.out HRE.out (by rw [HLR0.out]; omega) (by rw [HLQ.out]; omega), by rw [HRE.out]; exact Nat.mod_lt _ (Nat.mul_pos hbpos hf1), h4⟩
        case measure => simp [intOf]
      | true =>
        go_wp2_with fail
        refine (put_any w.heap.size w.heap.size i (n + 1) (n + 1) (k + 2) (some ⟨w1.heap.size, 0, none⟩) (k + 2) (n + 1 - i) R1 bl _ hownR1 hdR1 hlimB1 hdB (hide HBL.out.symm) HFar.out (by omega) (by omega)).mono ?_
        rintro e wu ⟨c2, R2, ⟨v2, rfl⟩, hownR2, hdR2, hsm2, hv2, hgr2⟩
        have HS2 : Hid (∀ j, (j < i ∨ i + (k + 2) < j) → R2.getD j 0 = R.getD j 0) := fun j hj => (hsm2 j hj).trans (HS1.out j hj)
        have HV2 := hide hv2
        have HL2 := hide hownR2.len
        have hupu := hupt.grown hgr2 (fun k e => by cases e; exact Nat.le_refl _)
        have hownQ2 := hownQ1.grown hgr2 (by simp [Value.ownBlock]; omega)
        have hlimB2 := hlimB1.grownG hgr2 HFar.out
        clear hsm2 hv2 hownR1 hownQ1 hlimB1 hupt hgr2
        have HL2v : Hid (val ((R2.drop i).take (k + 3)) < bas (k + 3)) := by
          have := val_lt (dig_take (dig_drop hdR2 i) (k + 3))
          rw [List.length_take, List.length_drop, HL2.out, Nat.min_eq_left (by omega)] at this
          exact this
        have HGE := hide (guess_end (W := val WL) (b := b * f) (g := g) (B := bas (k + 3)) (L1 := val ((R1.drop i).take (k + 3))) (L2 := val ((R2.drop i).take (k + 3))) (c := c2) (neg := true) (Nat.lt_of_lt_of_le HFF.out (bas_mono (by omega))) (Nat.mul_pos hbpos hf1) HGV.out.2.2.1 HGV.out.2.2.2.1 (by have := HV1.out; rw [HVB.out, ← HWLe.out] at this; exact this) HL1v.out (fun _ => by have := HV2.out; rw [HVB.out] at this; exact this) HL2v.out (fun h => by cases h))
        have HQE : Hid (g - 1 = val WL / (b * f)) := HGE.out.1
        have HRE : Hid (val (R2.drop i) = val WL % (b * f)) := long_next HLR.out HL2.out HW.out.2.1 HS2.out HGE.out.2
        have hg1 : 1 ≤ g := by
          rcases Nat.eq_zero_or_pos g with h | h
          · exfalso
            have h1 : val ((R1.drop i).take (k + 3)) + g * val bl = val ((R.drop i).take (k + 3)) + bas (k + 3) * 1 := HV1.out
            have h2 := HL1v.out
            rw [h, Nat.zero_mul, Nat.mul_one] at h1
            omega
          · exact h
        have hgl : g - 1 < 1000000000 := by
          rw [HQE.out]
          exact (Nat.div_lt_iff_lt_mul (Nat.mul_pos hbpos hf1)).2 HW3.out
        have hcellQ := hownQ2.cell (j := i) (by omega)
        have hfrQ := hownQ2.frozen i
        have HO := hide (hownQ2.set_ i (g - 1))
        have hownR9 := hide (hownR2.grown (grown_set _ w2.heap.size i (.int .u32 ((g - 1 : Nat) : Int))) (by simp [Value.ownBlock]; omega))
        have hlimB9 := hide (hlimB2.grownG (grown_set _ w2.heap.size i (.int .u32 ((g - 1 : Nat) : Int))) (fun ad e => by cases e; show w1.heap.size ≠ w2.heap.size; omega))
        have hup9 := hide (hupu.setCell (p := ⟨w2.heap.size, i, none⟩) (by show w.heap.size ≤ w2.heap.size; omega) (.int .u32 ((g - 1 : Nat) : Int)))
        clear hownQ2 hownR2 hlimB2
        go_wp2
        go_roundw
        case rel =>
          have e9 : ((g - 1 : Nat) : Int) = ((g : Int) - 1) := by omega
          have h1 := HO.out
          have h2 := hownR9.out
          have h3 := hlimB9.out
          have h4 := hup9.out
          rw [e9] at h1 h2 h3 h4
          exact ⟨_, i, R2, Q.set i (g - 1), rfl, by omega, by omega, h2, h1, h3, hdR2, dig_set hdQ hgl, fun q hq => (HS2.out q (.inl hq)).trans (HSm.out q (by omega)), long_keep HW1.out HV.out HQE.out HRE.out (by rw [HLR0.out]; omega) (by rw [HLQ.out]; omega), by rw [HRE.out]; exact Nat.mod_lt _ (Nat.mul_pos hbpos hf1), h4⟩
        case measure => simp [intOf]
    · obtain rfl : p = 0 := by omega
      obtain rfl : j = -1 := by omega
      have HE := hide (long_end (a := a) (b := b) (f := f) (Q := val Q) (R := val R) hf1 hbpos (by have := HV.out; simp only [List.drop_zero] at this; rw [← HVR0.out]; exact this) (by have := HR.out; simpa using this))
      obtain ⟨hlimR, _⟩ := hownR.lim'
      obtain ⟨hlimQ, _⟩ := hownQ.lim'
      clear hlimB hownR hownQ
      go_wp2_with fail
      refine (trim_lim' _ _ _ _ hlimR (n + 1) (val R) HLR.out hdR rfl (by omega) (Nat.le_refl _)).mono ?_
      rintro e w5 ⟨⟨n5, rfl, Hn5, hlim5, hc5⟩, rfl⟩
      go_wp2_with fail
      refine (short_any _ (n + 1) n5 (val R) f _ hlim5 Hn5 (by omega) hf1 hfB).mono ?_
      rintro e w6 ⟨A6, n6, c6, A7, n7, c7, rfl, Hn6, _, hl6, _, hc6, _, hnew6, _, hup6⟩
      rw [HE.out.2] at Hn6 hl6
      go_wp2_with fail
      refine (trim_lim' _ _ _ _ (hlimQ.up hup6) nq (a / b) HLQ.out hdQ HE.out.1 (by omega) (Nat.le_refl _)).mono ?_
      rintro e w7 ⟨⟨n7', rfl, Hn7, hlim7, hc7'⟩, rfl⟩
      go_wp2
      go_ret2
      exact ⟨_, n7', nq, A6, n6, c6, rfl, Hn7, Hn6, hlim7, hl6, hc7', hc6, fun ad e => by cases e; show w.heap.size ≤ w2.heap.size; omega, hnew6.mono hupw.size, hupw.trans hup6⟩
end Go.Proofs.Ytnelnobcecnhlaa
