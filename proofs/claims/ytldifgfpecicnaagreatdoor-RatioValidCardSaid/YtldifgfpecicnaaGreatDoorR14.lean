/- Decimal of the reference: results without a point. -/
import Derived.Test.YtldifgfpecicnaaGreatDoorR13
namespace Go.Proofs.YtldifgfpecicnaaGreatDoor
open Go.RowKit

set_option maxRecDepth 100000 in
set_option maxHeartbeats 4000000 in
theorem rdecPn {r : Rat} (d : Nat) (q : Int) (v0 : Value) (w : World) (f0 : Fz w v0 (nm r) (dn r)) (hd : d ≤ 20) (hdJ : (0 : Int) ≤ (d : Int)) (_hdI : (d : Int) ≤ 20) (hb : Hid (okB (nm r * 10 ^ d) = true)) (hq : 0 ≤ q) (hd0 : ¬ 0 < d) (Hq : Hid (q = (nm r * 10 ^ d).tdiv (dn r))) :
    Calls Tryz.prog 42 #[v0, .int .i64 (d : Int)] w (PSE w (decT (q) d) 0) := by
  obtain ⟨s0, A0, n0, c0, t0, B0, m0, d0, rfl, h0, k0⟩ := f0
  have hupw : Up w w := Up.refl w
  go_enter Tryz.func42, Tryz.ntmps42
  go_wp2_with fail
  obtain ⟨wa1, hwa1⟩ : ∃ x, x = (w.alloc (.cells #[.bool s0, .slice A0 n0 c0, .bool t0, .slice B0 m0 d0] 29)) := ⟨_, rfl⟩
  have hup : Up w wa1 := by rw [hwa1]; exact ((Up.refl w).alloc _)
  have hzwa1 : w.heap.size ≤ w.heap.size := hupw.size
  replace h0 := h0.up hup
  replace k0 := k0.up hup
  replace hupw := hupw.trans hup
  clear hup
  have hk2 : Bk wa1 (w.heap.size) 29 #[.bool s0, .slice A0 n0 c0, .bool t0, .slice B0 m0 d0] := by
    have := (Bk.new w 29 #[.bool s0, .slice A0 n0 c0, .bool t0, .slice B0 m0 d0])
    rw [hwa1]; simpa using this
  rw [← hwa1]
  clear hwa1
  refine (rvalidRQ (Fz.mk h0 k0)).mono ?_
  rintro e w2 ⟨rfl, hup⟩
  replace hk2 := hk2.up hup
  replace h0 := h0.up hup
  replace k0 := k0.up hup
  replace hupw := hupw.trans hup
  clear hup
  have hk2c0 := hk2.cell (i := 0) rfl
  have hk2c1 := hk2.cell (i := 1) rfl
  have hk2c2 := hk2.cell (i := 2) rfl
  have hk2c3 := hk2.cell (i := 3) rfl
  have hk2l := hk2.lt
  go_wp2_with fail
  clear hk2c0 hk2c1 hk2c2 hk2c3 hk2l
  obtain ⟨wa3, hwa3⟩ : ∃ x, x = (w2.alloc (.cells #[.bool s0, .slice A0 n0 c0] 24)) := ⟨_, rfl⟩
  have hup : Up w2 wa3 := by rw [hwa3]; exact ((Up.refl w2).alloc _)
  have howa3 : w.heap.size < w2.heap.size := hk2.lt
  have hzwa3 : w.heap.size ≤ w2.heap.size := hupw.size
  replace hk2 := hk2.up hup
  replace h0 := h0.up hup
  replace k0 := k0.up hup
  replace hupw := hupw.trans hup
  clear hup
  have hk6 : Bk wa3 (w2.heap.size) 24 #[.bool s0, .slice A0 n0 c0] := by
    have := (Bk.new w2 24 #[.bool s0, .slice A0 n0 c0])
    rw [hwa3]; simpa using this
  rw [← hwa3]
  clear hwa3
  go_loopw [7] (fun i wr => ∃ (j : Nat) (s : Bool) (A : Option Addr) (n c : Nat), j ≤ d ∧ i = .int .i64 j ∧ Bk wr w2.heap.size 24 #[.bool s, .slice A n c] ∧ Iz wr (.agg #[.bool s, .slice A n c]) (nm r * 10 ^ j) ∧ Bk wr w.heap.size 29 #[.bool s0, .slice A0 n0 c0, .bool t0, .slice B0 m0 d0] ∧ Iz wr (.agg #[.bool s0, .slice A0 n0 c0]) (nm r) ∧ Iz wr (.agg #[.bool t0, .slice B0 m0 d0]) (dn r) ∧ Up w wr) (fun i _ => d - (intOf i).toNat)
  case atStart => exact ⟨0, _, _, _, _, Nat.zero_le _, rfl, hk6, h0.congr (by rw [Int.pow_zero, Int.mul_one]), hk2, h0, k0, hupw⟩
  case round =>
    clear hk6 hk2 h0 k0 hupw
    obtain ⟨j, sj, Aj, nj, cj, hj, rfl, hk6, hj6, hk2, h0, k0, hupw⟩ := hrel
    rcases Nat.lt_or_ge j d with hlt | hge
    · have hb1 := pow_mono hb.out hlt
      exfalso
      omega
    · obtain rfl : d = j := by omega
      have hk6c0 := hk6.cell (i := 0) rfl
      have hk6c1 := hk6.cell (i := 1) rfl
      have hk6l := hk6.lt
      have hk2c0 := hk2.cell (i := 0) rfl
      have hk2c1 := hk2.cell (i := 1) rfl
      have hk2c2 := hk2.cell (i := 2) rfl
      have hk2c3 := hk2.cell (i := 3) rfl
      have hk2l := hk2.lt
      go_wp2_with fail
      clear hk6c0 hk6c1 hk6l hk2c0 hk2c1 hk2c2 hk2c3 hk2l
      refine (rdivE Hq hj6 k0 (dn_ne r)).mono ?_
      rintro e w4 ⟨v_5, v_6, rfl, h_5, h_6, hup⟩
      replace hk6 := hk6.up hup
      replace hupw := hupw.trans hup
      clear hup
      obtain ⟨s_5, A_5, n_5, c_5, rfl⟩ := h_5.agg
      obtain ⟨s_6, A_6, n_6, c_6, rfl⟩ := h_6.agg
      go_wp2_with fail
      obtain ⟨wa7, hwa7⟩ : ∃ x, x = ((w4.alloc (.cells #[.bool s_5, .slice A_5 n_5 c_5] 24)).alloc (.cells #[.bool s_6, .slice A_6 n_6 c_6] 24)) := ⟨_, rfl⟩
      have hup : Up w4 wa7 := by rw [hwa7]; exact (((Up.refl w4).alloc _).alloc _)
      have howa7 : w2.heap.size < w4.heap.size := hk6.lt
      have hzwa7 : w.heap.size ≤ w4.heap.size := hupw.size
      replace h_5 := h_5.up hup
      replace hupw := hupw.trans hup
      clear hup
      have hk10 : Bk wa7 (w4.heap.size) 24 #[.bool s_5, .slice A_5 n_5 c_5] := by
        have := ((Bk.new w4 24 #[.bool s_5, .slice A_5 n_5 c_5]).alloc (.cells #[.bool s_6, .slice A_6 n_6 c_6] 24))
        rw [hwa7]; simpa using this
      have hk11 : Bk wa7 (w4.heap.size + 1) 24 #[.bool s_6, .slice A_6 n_6 c_6] := by
        have := (Bk.new (w4.alloc (.cells #[.bool s_5, .slice A_5 n_5 c_5] 24)) 24 #[.bool s_6, .slice A_6 n_6 c_6])
        rw [hwa7]; simpa using this
      rw [← hwa7]
      clear hwa7
      refine (absQ h_5).mono ?_
      rintro e w8 ⟨v_9, rfl, h_9, hup⟩
      replace hk10 := hk10.up hup
      replace h_5 := h_5.up hup
      replace hupw := hupw.trans hup
      clear hup
      obtain ⟨s_9, A_9, n_9, c_9, rfl⟩ := h_9.agg
      go_wp2_with fail
      refine (rformatQ h_9).mono ?_
      rintro e w10 ⟨rfl, hup⟩
      replace hk10 := hk10.up hup
      replace h_5 := h_5.up hup
      replace hupw := hupw.trans hup
      clear hup
      go_wp2_with fail
      have hn : 0 < (bs (itxt (((q).natAbs : Nat) : Int))).size ∧ (bs (itxt (((q).natAbs : Nat) : Int))).size ≤ 301 := ⟨by rw [bs_size]; exact itxt_pos_len, itxt_size (by rw [Int.natAbs_natCast, Hq.out]; exact tdiv_top2 _ (okB_lt hb.out))⟩
      obtain ⟨N, hN⟩ : ∃ N, N = (bs (itxt (((q).natAbs : Nat) : Int))) := ⟨_, rfl⟩
      rw [← hN] at hn
      rw [← hN]
      have HN := hide hN
      clear hN
      obtain ⟨hn1, hn2⟩ := hn
      go_loop [13] (fun v => ∃ (k m : Nat) (P : ByteArray), v = .string P ∧ Hid (P = bs (List.replicate k 48) ++ N) ∧ P.size = m ∧ m = k + N.size ∧ k ≤ d + 1 - N.size) (fun v => 1000 - vSize v)
      case atStart => exact ⟨0, N.size, N, rfl, by show N = bs [] ++ N; rw [show bs [] = ByteArray.empty from rfl, ByteArray.empty_append], rfl, by omega, by omega⟩
      case round =>
        obtain ⟨k, m, P, rfl, HP, hm, hmk, hk⟩ := hrel
        have HMK := hide hmk
        clear hmk
        by_cases hlt2 : m < d + 1
        · have hsz : ¬ 9223372036854775807 < (⟨#[48]⟩ : ByteArray).size + P.size := by rw [size_48]; omega
          have h48 : (⟨#[48]⟩ : ByteArray).size = 1 := rfl
          go_wp2
          go_round
          case rel => exact ⟨k + 1, m + 1, ⟨#[48]⟩ ++ P, rfl, by show _ = _; rw [HP.out]; exact zero_more k N, by rw [ByteArray.size_append, h48, hm]; omega, by have := HMK.out; omega, by have := HMK.out; omega⟩
          case measure => simp only [vSize, ByteArray.size_append, h48]; omega
        · have hkd : k = d + 1 - N.size := by have := HMK.out; omega
          have HPD : Hid (P = padT N d) := by show _ = _; rw [HP.out, hkd]; rfl
          clear hkd
          have HT : Hid (decT (q) d = P) := by show _ = _; unfold decT; simp only []; rw [← HN.out, ← HPD.out, if_neg (Int.not_lt.2 hq), if_pos (by omega)]
          have hsgn : decide (((q).sign) < 0) = false := by rw [decide_eq_false_iff_not]; have := Int.sign_nonneg_iff.2 hq; omega
          have hk10c0 := hk10.cell (i := 0) rfl
          have hk10c1 := hk10.cell (i := 1) rfl
          have hk10l := hk10.lt
          go_wp2_with fail
          clear hk10c0 hk10c1 hk10l
          refine (rsignQ _ h_5 rfl).mono ?_
          rintro e w11 ⟨rfl, hup⟩
          replace hupw := hupw.trans hup
          clear hup
          go_wp2_with fail
          go_ret2
          exact ⟨by rw [HT.out] <;> rfl, hupw⟩

set_option maxRecDepth 100000 in
set_option maxHeartbeats 4000000 in
theorem rdecPm {r : Rat} (d : Nat) (q : Int) (v0 : Value) (w : World) (f0 : Fz w v0 (nm r) (dn r)) (hd : d ≤ 20) (hdJ : (0 : Int) ≤ (d : Int)) (_hdI : (d : Int) ≤ 20) (hb : Hid (okB (nm r * 10 ^ d) = true)) (hq : q < 0) (hd0 : ¬ 0 < d) (Hq : Hid (q = (nm r * 10 ^ d).tdiv (dn r))) :
    Calls Tryz.prog 42 #[v0, .int .i64 (d : Int)] w (PSE w (decT (q) d) 0) := by
  obtain ⟨s0, A0, n0, c0, t0, B0, m0, d0, rfl, h0, k0⟩ := f0
  have hupw : Up w w := Up.refl w
  go_enter Tryz.func42, Tryz.ntmps42
  go_wp2_with fail
  obtain ⟨wa1, hwa1⟩ : ∃ x, x = (w.alloc (.cells #[.bool s0, .slice A0 n0 c0, .bool t0, .slice B0 m0 d0] 29)) := ⟨_, rfl⟩
  have hup : Up w wa1 := by rw [hwa1]; exact ((Up.refl w).alloc _)
  have hzwa1 : w.heap.size ≤ w.heap.size := hupw.size
  replace h0 := h0.up hup
  replace k0 := k0.up hup
  replace hupw := hupw.trans hup
  clear hup
  have hk2 : Bk wa1 (w.heap.size) 29 #[.bool s0, .slice A0 n0 c0, .bool t0, .slice B0 m0 d0] := by
    have := (Bk.new w 29 #[.bool s0, .slice A0 n0 c0, .bool t0, .slice B0 m0 d0])
    rw [hwa1]; simpa using this
  rw [← hwa1]
  clear hwa1
  refine (rvalidRQ (Fz.mk h0 k0)).mono ?_
  rintro e w2 ⟨rfl, hup⟩
  replace hk2 := hk2.up hup
  replace h0 := h0.up hup
  replace k0 := k0.up hup
  replace hupw := hupw.trans hup
  clear hup
  have hk2c0 := hk2.cell (i := 0) rfl
  have hk2c1 := hk2.cell (i := 1) rfl
  have hk2c2 := hk2.cell (i := 2) rfl
  have hk2c3 := hk2.cell (i := 3) rfl
  have hk2l := hk2.lt
  go_wp2_with fail
  clear hk2c0 hk2c1 hk2c2 hk2c3 hk2l
  obtain ⟨wa3, hwa3⟩ : ∃ x, x = (w2.alloc (.cells #[.bool s0, .slice A0 n0 c0] 24)) := ⟨_, rfl⟩
  have hup : Up w2 wa3 := by rw [hwa3]; exact ((Up.refl w2).alloc _)
  have howa3 : w.heap.size < w2.heap.size := hk2.lt
  have hzwa3 : w.heap.size ≤ w2.heap.size := hupw.size
  replace hk2 := hk2.up hup
  replace h0 := h0.up hup
  replace k0 := k0.up hup
  replace hupw := hupw.trans hup
  clear hup
  have hk6 : Bk wa3 (w2.heap.size) 24 #[.bool s0, .slice A0 n0 c0] := by
    have := (Bk.new w2 24 #[.bool s0, .slice A0 n0 c0])
    rw [hwa3]; simpa using this
  rw [← hwa3]
  clear hwa3
  go_loopw [7] (fun i wr => ∃ (j : Nat) (s : Bool) (A : Option Addr) (n c : Nat), j ≤ d ∧ i = .int .i64 j ∧ Bk wr w2.heap.size 24 #[.bool s, .slice A n c] ∧ Iz wr (.agg #[.bool s, .slice A n c]) (nm r * 10 ^ j) ∧ Bk wr w.heap.size 29 #[.bool s0, .slice A0 n0 c0, .bool t0, .slice B0 m0 d0] ∧ Iz wr (.agg #[.bool s0, .slice A0 n0 c0]) (nm r) ∧ Iz wr (.agg #[.bool t0, .slice B0 m0 d0]) (dn r) ∧ Up w wr) (fun i _ => d - (intOf i).toNat)
  case atStart => exact ⟨0, _, _, _, _, Nat.zero_le _, rfl, hk6, h0.congr (by rw [Int.pow_zero, Int.mul_one]), hk2, h0, k0, hupw⟩
  case round =>
    clear hk6 hk2 h0 k0 hupw
    obtain ⟨j, sj, Aj, nj, cj, hj, rfl, hk6, hj6, hk2, h0, k0, hupw⟩ := hrel
    rcases Nat.lt_or_ge j d with hlt | hge
    · have hb1 := pow_mono hb.out hlt
      exfalso
      omega
    · obtain rfl : d = j := by omega
      have hk6c0 := hk6.cell (i := 0) rfl
      have hk6c1 := hk6.cell (i := 1) rfl
      have hk6l := hk6.lt
      have hk2c0 := hk2.cell (i := 0) rfl
      have hk2c1 := hk2.cell (i := 1) rfl
      have hk2c2 := hk2.cell (i := 2) rfl
      have hk2c3 := hk2.cell (i := 3) rfl
      have hk2l := hk2.lt
      go_wp2_with fail
      clear hk6c0 hk6c1 hk6l hk2c0 hk2c1 hk2c2 hk2c3 hk2l
      refine (rdivE Hq hj6 k0 (dn_ne r)).mono ?_
      rintro e w4 ⟨v_5, v_6, rfl, h_5, h_6, hup⟩
      replace hk6 := hk6.up hup
      replace hupw := hupw.trans hup
      clear hup
      obtain ⟨s_5, A_5, n_5, c_5, rfl⟩ := h_5.agg
      obtain ⟨s_6, A_6, n_6, c_6, rfl⟩ := h_6.agg
      go_wp2_with fail
      obtain ⟨wa7, hwa7⟩ : ∃ x, x = ((w4.alloc (.cells #[.bool s_5, .slice A_5 n_5 c_5] 24)).alloc (.cells #[.bool s_6, .slice A_6 n_6 c_6] 24)) := ⟨_, rfl⟩
      have hup : Up w4 wa7 := by rw [hwa7]; exact (((Up.refl w4).alloc _).alloc _)
      have howa7 : w2.heap.size < w4.heap.size := hk6.lt
      have hzwa7 : w.heap.size ≤ w4.heap.size := hupw.size
      replace h_5 := h_5.up hup
      replace hupw := hupw.trans hup
      clear hup
      have hk10 : Bk wa7 (w4.heap.size) 24 #[.bool s_5, .slice A_5 n_5 c_5] := by
        have := ((Bk.new w4 24 #[.bool s_5, .slice A_5 n_5 c_5]).alloc (.cells #[.bool s_6, .slice A_6 n_6 c_6] 24))
        rw [hwa7]; simpa using this
      have hk11 : Bk wa7 (w4.heap.size + 1) 24 #[.bool s_6, .slice A_6 n_6 c_6] := by
        have := (Bk.new (w4.alloc (.cells #[.bool s_5, .slice A_5 n_5 c_5] 24)) 24 #[.bool s_6, .slice A_6 n_6 c_6])
        rw [hwa7]; simpa using this
      rw [← hwa7]
      clear hwa7
      refine (absQ h_5).mono ?_
      rintro e w8 ⟨v_9, rfl, h_9, hup⟩
      replace hk10 := hk10.up hup
      replace h_5 := h_5.up hup
      replace hupw := hupw.trans hup
      clear hup
      obtain ⟨s_9, A_9, n_9, c_9, rfl⟩ := h_9.agg
      go_wp2_with fail
      refine (rformatQ h_9).mono ?_
      rintro e w10 ⟨rfl, hup⟩
      replace hk10 := hk10.up hup
      replace h_5 := h_5.up hup
      replace hupw := hupw.trans hup
      clear hup
      go_wp2_with fail
      have hn : 0 < (bs (itxt (((q).natAbs : Nat) : Int))).size ∧ (bs (itxt (((q).natAbs : Nat) : Int))).size ≤ 301 := ⟨by rw [bs_size]; exact itxt_pos_len, itxt_size (by rw [Int.natAbs_natCast, Hq.out]; exact tdiv_top2 _ (okB_lt hb.out))⟩
      obtain ⟨N, hN⟩ : ∃ N, N = (bs (itxt (((q).natAbs : Nat) : Int))) := ⟨_, rfl⟩
      rw [← hN] at hn
      rw [← hN]
      have HN := hide hN
      clear hN
      obtain ⟨hn1, hn2⟩ := hn
      go_loop [13] (fun v => ∃ (k m : Nat) (P : ByteArray), v = .string P ∧ Hid (P = bs (List.replicate k 48) ++ N) ∧ P.size = m ∧ m = k + N.size ∧ k ≤ d + 1 - N.size) (fun v => 1000 - vSize v)
      case atStart => exact ⟨0, N.size, N, rfl, by show N = bs [] ++ N; rw [show bs [] = ByteArray.empty from rfl, ByteArray.empty_append], rfl, by omega, by omega⟩
      case round =>
        obtain ⟨k, m, P, rfl, HP, hm, hmk, hk⟩ := hrel
        have HMK := hide hmk
        clear hmk
        by_cases hlt2 : m < d + 1
        · have hsz : ¬ 9223372036854775807 < (⟨#[48]⟩ : ByteArray).size + P.size := by rw [size_48]; omega
          have h48 : (⟨#[48]⟩ : ByteArray).size = 1 := rfl
          go_wp2
          go_round
          case rel => exact ⟨k + 1, m + 1, ⟨#[48]⟩ ++ P, rfl, by show _ = _; rw [HP.out]; exact zero_more k N, by rw [ByteArray.size_append, h48, hm]; omega, by have := HMK.out; omega, by have := HMK.out; omega⟩
          case measure => simp only [vSize, ByteArray.size_append, h48]; omega
        · have hkd : k = d + 1 - N.size := by have := HMK.out; omega
          have HPD : Hid (P = padT N d) := by show _ = _; rw [HP.out, hkd]; rfl
          clear hkd
          have hsz3 : ¬ 9223372036854775807 < (⟨#[45]⟩ : ByteArray).size + (P : ByteArray).size := by rw [size_45]; have := HMK.out; omega
          have HT : Hid (decT (q) d = (⟨#[45]⟩ ++ P)) := by show _ = _; unfold decT; simp only []; rw [← HN.out, ← HPD.out, if_pos hq, if_pos (by omega)]
          have hk10c0 := hk10.cell (i := 0) rfl
          have hk10c1 := hk10.cell (i := 1) rfl
          have hk10l := hk10.lt
          go_wp2_with fail
          clear hk10c0 hk10c1 hk10l
          refine (rsignQ (-1) h_5 (Int.sign_eq_neg_one_of_neg hq)).mono ?_
          rintro e w11 ⟨rfl, hup⟩
          replace hupw := hupw.trans hup
          clear hup
          go_wp2_with fail
          go_ret2
          exact ⟨by rw [HT.out] <;> rfl, hupw⟩


end Go.Proofs.YtldifgfpecicnaaGreatDoor
