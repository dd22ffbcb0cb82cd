/- Decimal of the reference: errors. -/
import Derived.Test.YtldifgfpecicnaaGreatDoorR12
import Derived.Test.YtldifgfpecicnaaGreatDoorRInv
namespace Go.Proofs.YtldifgfpecicnaaGreatDoor
open Go.RowKit

set_option maxRecDepth 100000 in
set_option maxHeartbeats 4000000 in
theorem rdecN (z : Int) (v0 : Value) (w : World) (h0 : Nz w v0) :
    Calls Tryz.prog 42 #[v0, .int .i64 z] w (PSE w ⟨#[]⟩ 1) := by
  obtain ⟨s0, A0, n0, c0, t0, B0, m0, d0, rfl⟩ := h0.agg4
  have hupw : Up w w := Up.refl w
  go_enter Tryz.func42, Tryz.ntmps42
  go_wp2_with fail
  obtain ⟨wa1, hwa1⟩ : ∃ x, x = (w.alloc (.cells #[.bool s0, .slice A0 n0 c0, .bool t0, .slice B0 m0 d0] 29)) := ⟨_, rfl⟩
  have hup : Up w wa1 := by rw [hwa1]; exact ((Up.refl w).alloc _)
  have hzwa1 : w.heap.size ≤ w.heap.size := hupw.size
  replace h0 := h0.up hup
  replace hupw := hupw.trans hup
  clear hup
  have hk2 : Bk wa1 (w.heap.size) 29 #[.bool s0, .slice A0 n0 c0, .bool t0, .slice B0 m0 d0] := by
    have := (Bk.new w 29 #[.bool s0, .slice A0 n0 c0, .bool t0, .slice B0 m0 d0])
    rw [hwa1]; simpa using this
  rw [← hwa1]
  clear hwa1
  refine (rvalidNQ h0).mono ?_
  rintro e w2 ⟨rfl, hup⟩
  replace hupw := hupw.trans hup
  clear hup
  go_wp2_with fail
  go_ret2
  exact ⟨rfl, hupw⟩
set_option maxRecDepth 100000 in
set_option maxHeartbeats 4000000 in
theorem rdecL {r : Rat} (z : Int) (v0 : Value) (w : World) (f0 : Fz w v0 (nm r) (dn r)) (hz : z < 0) :
    Calls Tryz.prog 42 #[v0, .int .i64 z] w (PSE w ⟨#[]⟩ 7) := by
  obtain ⟨s0, A0, n0, c0, t0, B0, m0, d0, rfl, h0, k0⟩ := f0
  have hupw : Up w w := Up.refl w
  go_enter Tryz.func42, Tryz.ntmps42
  go_wp2_with fail
  obtain ⟨wa1, hwa1⟩ : ∃ x, x = (w.alloc (.cells #[.bool s0, .slice A0 n0 c0, .bool t0, .slice B0 m0 d0] 29)) := ⟨_, rfl⟩
  have hup : Up w wa1 := by rw [hwa1]; exact ((Up.refl w).alloc _)
  have hzwa1 : w.heap.size ≤ w.heap.size := hupw.size
  replace h0 := h0.up hup
  replace k0 := k0.up hup
  replace hupw := hupw.trans hup
  clear hup
  have hk2 : Bk wa1 (w.heap.size) 29 #[.bool s0, .slice A0 n0 c0, .bool t0, .slice B0 m0 d0] := by
    have := (Bk.new w 29 #[.bool s0, .slice A0 n0 c0, .bool t0, .slice B0 m0 d0])
    rw [hwa1]; simpa using this
  rw [← hwa1]
  clear hwa1
  refine (rvalidRQ (Fz.mk h0 k0)).mono ?_
  rintro e w2 ⟨rfl, hup⟩
  replace hupw := hupw.trans hup
  clear hup
  go_wp2_with fail
  go_ret2
  exact ⟨rfl, hupw⟩
set_option maxRecDepth 100000 in
set_option maxHeartbeats 4000000 in
theorem rdecG {r : Rat} (z : Int) (v0 : Value) (w : World) (f0 : Fz w v0 (nm r) (dn r)) (hz : ¬ z < 0) (hz2 : 20 < z) :
    Calls Tryz.prog 42 #[v0, .int .i64 z] w (PSE w ⟨#[]⟩ 7) := by
  obtain ⟨s0, A0, n0, c0, t0, B0, m0, d0, rfl, h0, k0⟩ := f0
  have hupw : Up w w := Up.refl w
  go_enter Tryz.func42, Tryz.ntmps42
  go_wp2_with fail
  obtain ⟨wa1, hwa1⟩ : ∃ x, x = (w.alloc (.cells #[.bool s0, .slice A0 n0 c0, .bool t0, .slice B0 m0 d0] 29)) := ⟨_, rfl⟩
  have hup : Up w wa1 := by rw [hwa1]; exact ((Up.refl w).alloc _)
  have hzwa1 : w.heap.size ≤ w.heap.size := hupw.size
  replace h0 := h0.up hup
  replace k0 := k0.up hup
  replace hupw := hupw.trans hup
  clear hup
  have hk2 : Bk wa1 (w.heap.size) 29 #[.bool s0, .slice A0 n0 c0, .bool t0, .slice B0 m0 d0] := by
    have := (Bk.new w 29 #[.bool s0, .slice A0 n0 c0, .bool t0, .slice B0 m0 d0])
    rw [hwa1]; simpa using this
  rw [← hwa1]
  clear hwa1
  refine (rvalidRQ (Fz.mk h0 k0)).mono ?_
  rintro e w2 ⟨rfl, hup⟩
  replace hupw := hupw.trans hup
  clear hup
  go_wp2_with fail
  go_ret2
  exact ⟨rfl, hupw⟩
theorem rdecXQ {w : World} {v : Value} {r : Rat} (h : Rz w v r) (z : Int) (hz : z < 0 ∨ 20 < z) : Calls Tryz.prog 42 #[v, .int .i64 z] w (PSE w ⟨#[]⟩ 7) := by
  by_cases h0 : z < 0
  · exact rdecL z v w h h0
  · exact rdecG z v w h h0 (by omega)
theorem Box.unfilled {B : Nat} {w : World} {x y : Value} {b : Bool} (h : Box B w x b y) (hb : b = false) (y' : Value) : Box B w x b y' := by
  obtain ⟨g, s, A, n, c, h1, h2, h3, h4⟩ := h
  exact ⟨g, s, A, n, c, h1, h2, h3, fun h => by rw [hb] at h; cases h⟩
theorem pow_mono {x : Int} {j d : Nat} (h : okB (x * 10 ^ d) = true) (hj : j < d) : okB (x * 10 ^ j * 10) = true := by
  refine okB_top (Nat.lt_of_le_of_lt ?_ (okB_lt h))
  rw [Int.mul_assoc, ← Int.pow_succ, Int.natAbs_mul, Int.natAbs_mul, Int.natAbs_pow, Int.natAbs_pow]
  exact Nat.mul_le_mul_left _ (Nat.pow_le_pow_right (by decide) hj)
theorem pow_next (x : Int) (j : Nat) : x * 10 ^ j * 10 = x * 10 ^ (j + 1) := by rw [Int.mul_assoc, ← Int.pow_succ]
def vSize (v : Value) : Nat := match v with | .string s => s.size | _ => 0
theorem zero_more (k : Nat) (N : ByteArray) : (⟨#[48]⟩ : ByteArray) ++ (bs (List.replicate k 48) ++ N) = bs (List.replicate (k + 1) 48) ++ N := by
  rw [← ByteArray.append_assoc, show (⟨#[48]⟩ : ByteArray) = bs [48] from rfl, bs_append]; rfl
theorem rdivE {w : World} {v v' : Value} {x y q : Int} (Hq : Hid (q = x.tdiv y)) (h : Iz w v x) (h' : Iz w v' y) (hy : y ≠ 0) : Calls Tryz.prog 50 #[v, v'] w (PIIE w q (x.tmod y) 0) := by rw [Hq.out]; exact rdivQ h h' hy
theorem size_48 : (⟨#[48]⟩ : ByteArray).size = 1 := rfl
set_option maxRecDepth 100000 in
set_option maxHeartbeats 4000000 in
theorem rdecE {r : Rat} (d : Nat) (v0 : Value) (w : World) (f0 : Fz w v0 (nm r) (dn r)) (hd : d ≤ 20) (hdJ : (0 : Int) ≤ (d : Int)) (_hdI : (d : Int) ≤ 20) (hb : Hid (okB (nm r * 10 ^ d) = false)) :
    Calls Tryz.prog 42 #[v0, .int .i64 (d : Int)] w (PSE w ⟨#[]⟩ 3) := by
  obtain ⟨s0, A0, n0, c0, t0, B0, m0, d0, rfl, h0, k0⟩ := f0
  have hupw : Up w w := Up.refl w
  go_enter Tryz.func42, Tryz.ntmps42
  go_wp2_with fail
  obtain ⟨wa1, hwa1⟩ : ∃ x, x = (w.alloc (.cells #[.bool s0, .slice A0 n0 c0, .bool t0, .slice B0 m0 d0] 29)) := ⟨_, rfl⟩
  have hup : Up w wa1 := by rw [hwa1]; exact ((Up.refl w).alloc _)
  have hzwa1 : w.heap.size ≤ w.heap.size := hupw.size
  replace h0 := h0.up hup
  replace k0 := k0.up hup
  replace hupw := hupw.trans hup
  clear hup
  have hk2 : Bk wa1 (w.heap.size) 29 #[.bool s0, .slice A0 n0 c0, .bool t0, .slice B0 m0 d0] := by
    have := (Bk.new w 29 #[.bool s0, .slice A0 n0 c0, .bool t0, .slice B0 m0 d0])
    rw [hwa1]; simpa using this
  rw [← hwa1]
  clear hwa1
  refine (rvalidRQ (Fz.mk h0 k0)).mono ?_
  rintro e w2 ⟨rfl, hup⟩
  replace hk2 := hk2.up hup
  replace h0 := h0.up hup
  replace k0 := k0.up hup
  replace hupw := hupw.trans hup
  clear hup
  have hk2c0 := hk2.cell (i := 0) rfl
  have hk2c1 := hk2.cell (i := 1) rfl
  have hk2c2 := hk2.cell (i := 2) rfl
  have hk2c3 := hk2.cell (i := 3) rfl
  have hk2l := hk2.lt
  go_wp2_with fail
  clear hk2c0 hk2c1 hk2c2 hk2c3 hk2l
  obtain ⟨wa3, hwa3⟩ : ∃ x, x = (w2.alloc (.cells #[.bool s0, .slice A0 n0 c0] 24)) := ⟨_, rfl⟩
  have hup : Up w2 wa3 := by rw [hwa3]; exact ((Up.refl w2).alloc _)
  have howa3 : w.heap.size < w2.heap.size := hk2.lt
  have hzwa3 : w.heap.size ≤ w2.heap.size := hupw.size
  replace hk2 := hk2.up hup
  replace h0 := h0.up hup
  replace k0 := k0.up hup
  replace hupw := hupw.trans hup
  clear hup
  have hk6 : Bk wa3 (w2.heap.size) 24 #[.bool s0, .slice A0 n0 c0] := by
    have := (Bk.new w2 24 #[.bool s0, .slice A0 n0 c0])
    rw [hwa3]; simpa using this
  rw [← hwa3]
  clear hwa3
  go_loopw [7] (fun i wr => ∃ (j : Nat) (s : Bool) (A : Option Addr) (n c : Nat), j ≤ d ∧ i = .int .i64 j ∧ Bk wr w2.heap.size 24 #[.bool s, .slice A n c] ∧ Iz wr (.agg #[.bool s, .slice A n c]) (nm r * 10 ^ j) ∧ Bk wr w.heap.size 29 #[.bool s0, .slice A0 n0 c0, .bool t0, .slice B0 m0 d0] ∧ Iz wr (.agg #[.bool s0, .slice A0 n0 c0]) (nm r) ∧ Iz wr (.agg #[.bool t0, .slice B0 m0 d0]) (dn r) ∧ Up w wr) (fun i _ => d - (intOf i).toNat)
  case atStart => exact ⟨0, _, _, _, _, Nat.zero_le _, rfl, hk6, h0.congr (by rw [Int.pow_zero, Int.mul_one]), hk2, h0, k0, hupw⟩
  case round =>
    clear hk6 hk2 h0 k0 hupw
    obtain ⟨j, sj, Aj, nj, cj, hj, rfl, hk6, hj6, hk2, h0, k0, hupw⟩ := hrel
    have hcs : (j < d ∧ okB (nm r * 10 ^ j * 10) = true) ∨ (j < d ∧ okB (nm r * 10 ^ j * 10) = false) := by
      rcases Nat.lt_or_ge j d with h | h
      · cases e : okB (nm r * 10 ^ j * 10) with
        | true => exact .inl ⟨h, rfl⟩
        | false => exact .inr ⟨h, rfl⟩
      · exfalso
        obtain rfl : d = j := by omega
        have := okB_top hj6.2
        rw [hb.out] at this; cases this
    rcases hcs with ⟨hlt, hb1⟩ | ⟨hlt, hb1⟩
    · skip
      go_wp2_with fail
      refine region_inv (fun lz az W => ∃ (b0 b1 b2 b3 b4 b5 b6 b7 b8 : Bool) (x9_0 x9_1 x9_2 x9_3 x9_4 x9_5 x9_6 x9_8 : Value), lz = #[b0, b1, b2, b3, b4, b5, b6, b7, b8] ∧ az = { tmps := #[.agg #[.bool s0, .slice A0 n0 c0, .bool t0, .slice B0 m0 d0], .int .i64 (d : Int), .pointer (some ⟨w.heap.size, 0, none⟩), undef, u4, u5, .pointer (some ⟨w2.heap.size, 0, none⟩), .int .i64 (j : Int), x9_6, x9_8, undef, undef, undef, undef, .agg #[.bool s0, .slice A0 n0 c0, .bool t0, .slice B0 m0 d0], .bool true, .bool false, .int .i64 (d : Int), .bool (decide ((d : Int) < 0)), .bool (decide ((d : Int) < 0)), .int .i64 (d : Int), .bool (decide (20 < (d : Int))), .bool (decide ((d : Int) < 0) || decide (20 < (d : Int))), .pointer (some ⟨w.heap.size, 0, none⟩), .agg #[.bool s0, .slice A0 n0 c0], .int .i64 (j : Int), .int .i64 (d : Int), .bool true, u28, u29, x9_3, x9_0, x9_1, x9_2, x9_4, x9_5, u36, u37, u38, u39, undef, undef, undef, undef, undef, undef, undef, undef, undef, undef, undef, undef, undef, undef, undef, undef, undef, undef, undef, undef, undef, undef, undef, undef, undef, undef, undef, undef, undef, undef, undef, undef, undef, undef, undef, undef, undef, undef, undef, undef], defers := [] } ∧ Up wr W ∧ (b0 = true → x9_0 = .agg #[.bool sj, .slice Aj nj cj]) ∧ (b1 = true → Iz W x9_1 10) ∧ (b2 = true → ∃ v0 : Value, x9_2 = .tuple #[v0, .int .i64 0] ∧ Iz W v0 (nm r * 10 ^ j * 10)) ∧ (b3 = true → ∃ v0 : Value, x9_3 = .tuple #[v0, .int .i64 0] ∧ Iz W v0 (nm r * 10 ^ j * 10)) ∧ (b4 = true → Iz W x9_4 (nm r * 10 ^ j * 10)) ∧ (b5 = true → x9_5 = .int .i64 0) ∧ (b6 = true → Box (wr.heap.size) W x9_6 b7 x9_4) ∧ (b7 = true → b6 = true ∧ b4 = true) ∧ (b8 = true → x9_8 = .int .i64 0)) (by kernel_rfl) (by kernel_rfl) ?hs ?h0 ?hstep ?hQ
      case hs => rintro l a W ⟨b0, b1, b2, b3, b4, b5, b6, b7, b8, x9_0, x9_1, x9_2, x9_3, x9_4, x9_5, x9_6, x9_8, rfl, rfl, hup, hF0, hF1, hF2, hF3, hF4, hF5, hF6, hF7, hF8⟩; rfl
      case h0 => exact ⟨false, false, false, false, false, false, false, false, false, u31, u32, u33, u30, u34, u35, u8, u9, rfl, rfl, (Up.refl wr).drew, (fun h => by cases h), (fun h => by cases h), (fun h => by cases h), (fun h => by cases h), (fun h => by cases h), (fun h => by cases h), (fun h => by cases h), (fun h => by cases h), (fun h => by cases h)⟩
      case hstep =>
        rintro l a W ⟨b0, b1, b2, b3, b4, b5, b6, b7, b8, x9_0, x9_1, x9_2, x9_3, x9_4, x9_5, x9_6, x9_8, rfl, rfl, hup, hF0, hF1, hF2, hF3, hF4, hF5, hF6, hF7, hF8⟩ i hi
        have hlt : i < 9 := ready_lt hi
        have HF0 := hide hF0
        have HF1 := hide hF1
        have HF2 := hide hF2
        have HF3 := hide hF3
        have HF4 := hide hF4
        have HF5 := hide hF5
        have HF6 := hide hF6
        have HF7 := hide hF7
        have HF8 := hide hF8
        clear hF0 hF1 hF2 hF3 hF4 hF5 hF6 hF7 hF8
        have hcase : i = 0 ∨ i = 1 ∨ i = 2 ∨ i = 3 ∨ i = 4 ∨ i = 5 ∨ i = 6 ∨ i = 7 ∨ i = 8 := by omega
        clear hlt
        rcases hcase with rfl | rfl | rfl | rfl | rfl | rfl | rfl | rfl | rfl
        · skip
          have kc0 := (hk6.up hup).cell (i := 0) rfl
          have kc1 := (hk6.up hup).cell (i := 1) rfl
          clear hi
          refine wpOp_step rfl (fun K hK => ?_)
          go_simp
          refine hK _ _ ?_
          clear hK K
          exact ⟨true, b1, b2, b3, b4, b5, b6, b7, b8, .agg #[.bool sj, .slice Aj nj cj], x9_1, x9_2, x9_3, x9_4, x9_5, x9_6, x9_8, rfl, rfl, hup, (fun _ => rfl), HF1.out, HF2.out, HF3.out, HF4.out, HF5.out, HF6.out, HF7.out, HF8.out⟩
        · skip
          clear hi
          refine wpOp_step rfl (fun K hK => ?_)
          go_simp
          refine (rofQ 10 (by decide) (by decide)).mono ?_
          rintro e w1 ⟨v1, rfl, hv1, hup1⟩
          go_wp2_with fail
          exact ⟨b0, true, b2, b3, b4, b5, b6, b7, b8, x9_0, v1, x9_2, x9_3, x9_4, x9_5, x9_6, x9_8, rfl, rfl, hup.trans hup1, HF0.out, (fun _ => hv1), (fun h => by obtain ⟨q0, rq, r0⟩ := HF2.out h; exact ⟨q0, rq, r0.up hup1⟩), (fun h => by obtain ⟨q0, rq, r0⟩ := HF3.out h; exact ⟨q0, rq, r0.up hup1⟩), (fun h => (HF4.out h).up hup1), HF5.out, (fun h => (HF6.out h).up hup1), HF7.out, HF8.out⟩
        · skip
          have hb : b0 = true := getB (l := [b0, b1, b2, b3, b4, b5, b6, b7, b8]) (ready_dep hi rfl 0 (by kernel_rfl)) rfl
          have hx := HF0.out hb
          clear hb
          subst hx
          have hb1q : b1 = true := getB (l := [b0, b1, b2, b3, b4, b5, b6, b7, b8]) (ready_dep hi rfl 1 (by kernel_rfl)) rfl
          have hx1 := hide (HF1.out hb1q)
          clear hb1q
          clear hi
          refine wpOp_step rfl (fun K hK => ?_)
          go_simp
          refine (rmulQ (hj6.up hup) hx1.out hb1).mono ?_
          rintro e w1 ⟨v0, rfl, hv0, hup1⟩
          go_wp2_with fail
          exact ⟨b0, b1, true, b3, b4, b5, b6, b7, b8, .agg #[.bool sj, .slice Aj nj cj], x9_1, .tuple #[v0, .int .i64 0], x9_3, x9_4, x9_5, x9_6, x9_8, rfl, rfl, hup.trans hup1, (fun _ => rfl), (fun h => (HF1.out h).up hup1), (fun _ => ⟨v0, rfl, hv0⟩), (fun h => by obtain ⟨q0, rq, r0⟩ := HF3.out h; exact ⟨q0, rq, r0.up hup1⟩), (fun h => (HF4.out h).up hup1), HF5.out, (fun h => (HF6.out h).up hup1), HF7.out, HF8.out⟩
        · skip
          have hb : b2 = true := getB (l := [b0, b1, b2, b3, b4, b5, b6, b7, b8]) (ready_dep hi rfl 2 (by kernel_rfl)) rfl
          have hx := hide (HF2.out hb)
          clear hb
          clear hi
          refine wpOp_step rfl (fun K hK => ?_)
          go_simp
          refine hK _ _ ?_
          clear hK K
          exact ⟨b0, b1, b2, true, b4, b5, b6, b7, b8, x9_0, x9_1, x9_2, x9_2, x9_4, x9_5, x9_6, x9_8, rfl, rfl, hup, HF0.out, HF1.out, HF2.out, (fun _ => hx.out), HF4.out, HF5.out, HF6.out, HF7.out, HF8.out⟩
        · skip
          have hb : b3 = true := getB (l := [b0, b1, b2, b3, b4, b5, b6, b7, b8]) (ready_dep hi rfl 3 (by kernel_rfl)) rfl
          have Hb := hide hb
          obtain ⟨v0, hxe, hv0⟩ := HF3.out hb
          clear hb
          subst hxe
          have hn := ready_not hi
          have hst7 : b7 = false := by
            cases e : b7 with
            | false => rfl
            | true => have h5 := (HF7.out e).2; rw [h5] at hn; cases hn
          have Hst7 := hide hst7
          clear hst7
          clear hn
          clear hi
          refine wpOp_step rfl (fun K hK => ?_)
          go_simp
          refine hK _ _ ?_
          clear hK K
          exact ⟨b0, b1, b2, b3, true, b5, b6, b7, b8, x9_0, x9_1, x9_2, .tuple #[v0, .int .i64 0], v0, x9_5, x9_6, x9_8, rfl, rfl, hup, HF0.out, HF1.out, HF2.out, HF3.out, (fun _ => hv0), HF5.out, (fun h => ((HF6.out h).up (Up.refl _)).unfilled Hst7.out _), (fun h => ⟨(HF7.out h).1, rfl⟩), HF8.out⟩
        · skip
          have hb : b3 = true := getB (l := [b0, b1, b2, b3, b4, b5, b6, b7, b8]) (ready_dep hi rfl 3 (by kernel_rfl)) rfl
          have Hb := hide hb
          obtain ⟨v0, hxe, hv0⟩ := HF3.out hb
          clear hb
          subst hxe
          clear hi
          refine wpOp_step rfl (fun K hK => ?_)
          go_simp
          refine hK _ _ ?_
          clear hK K
          exact ⟨b0, b1, b2, b3, b4, true, b6, b7, b8, x9_0, x9_1, x9_2, .tuple #[v0, .int .i64 0], x9_4, .int .i64 0, x9_6, x9_8, rfl, rfl, hup, HF0.out, HF1.out, HF2.out, HF3.out, HF4.out, (fun _ => rfl), HF6.out, HF7.out, HF8.out⟩
        · skip
          have hn := ready_not hi
          have hst7 : b7 = false := by
            cases e : b7 with
            | false => rfl
            | true => have h5 := (HF7.out e).1; rw [h5] at hn; cases hn
          have Hst7 := hide hst7
          clear hst7
          clear hn
          clear hi
          have hsz := hup.size
          have hupA := (Up.refl W).alloc (.cells #[.bool false, .slice none 0 0] 24)
          refine wpOp_step rfl (fun K hK => ?_)
          go_simp
          refine hK _ _ ?_
          clear hK K
          exact ⟨b0, b1, b2, b3, b4, b5, true, b7, b8, x9_0, x9_1, x9_2, x9_3, x9_4, x9_5, .pointer (some ⟨W.heap.size, 0, none⟩), x9_8, rfl, rfl, hup.trans hupA, HF0.out, (fun h => (HF1.out h).up hupA), (fun h => by obtain ⟨q0, rq, r0⟩ := HF2.out h; exact ⟨q0, rq, r0.up hupA⟩), (fun h => by obtain ⟨q0, rq, r0⟩ := HF3.out h; exact ⟨q0, rq, r0.up hupA⟩), (fun h => (HF4.out h).up hupA), HF5.out, (fun _ => by rw [Hst7.out]; exact Box.new _ W _ hsz), (fun h => ⟨rfl, (HF7.out h).2⟩), HF8.out⟩
        · skip
          have hb2 : b6 = true := getB (l := [b0, b1, b2, b3, b4, b5, b6, b7, b8]) (ready_dep hi rfl 6 (by kernel_rfl)) rfl
          have hb1 : b4 = true := getB (l := [b0, b1, b2, b3, b4, b5, b6, b7, b8]) (ready_dep hi rfl 4 (by kernel_rfl)) rfl
          clear hi
          obtain ⟨s9, A9, n9, c9, hxc⟩ := (HF4.out hb1).agg
          subst hxc
          obtain ⟨g, s8, A8, n8, c8, hxb, hgB, hbk, _⟩ := HF6.out hb2
          subst hxb
          have f0 := hbk.cell (i := 0) rfl
          have z0 := hbk.frozen 0
          have f1 := hbk.cell (i := 1) rfl
          have z1 := hbk.frozen 1
          have Hb1 := hide hb1
          have Hb2 := hide hb2
          have hsz := hup.size
          clear hb1 hb2
          refine wpOp_step rfl (fun K hK => ?_)
          go_simp
          refine hK _ _ ?_
          clear hK K
          exact ⟨b0, b1, b2, b3, b4, b5, b6, true, b8, x9_0, x9_1, x9_2, x9_3, .agg #[.bool s9, .slice A9 n9 c9], x9_5, .pointer (some ⟨g, 0, none⟩), x9_8, rfl, rfl, hup.two (g := g) hgB _ _, HF0.out, (fun h => (HF1.out h).st2 hbk (noU2 _ _ _ _) _ _), (fun h => by obtain ⟨q0, rq, r0⟩ := HF2.out h; exact ⟨q0, rq, r0.st2 hbk (noU2 _ _ _ _) _ _⟩), (fun h => by obtain ⟨q0, rq, r0⟩ := HF3.out h; exact ⟨q0, rq, r0.st2 hbk (noU2 _ _ _ _) _ _⟩), (fun h => (HF4.out h).st2 hbk (noU2 _ _ _ _) _ _), HF5.out, (fun _ => hbk.fill hgB), (fun _ => ⟨Hb2.out, Hb1.out⟩), HF8.out⟩
        · skip
          have hb : b5 = true := getB (l := [b0, b1, b2, b3, b4, b5, b6, b7, b8]) (ready_dep hi rfl 5 (by kernel_rfl)) rfl
          have hx := hide (HF5.out hb)
          clear hb
          clear hi
          refine wpOp_step rfl (fun K hK => ?_)
          go_simp
          refine hK _ _ ?_
          clear hK K
          exact ⟨b0, b1, b2, b3, b4, b5, b6, b7, true, x9_0, x9_1, x9_2, x9_3, x9_4, x9_5, x9_6, x9_5, rfl, rfl, hup, HF0.out, HF1.out, HF2.out, HF3.out, HF4.out, HF5.out, HF6.out, HF7.out, (fun _ => hx.out)⟩
      case hQ =>
        rintro l a W9_ ⟨b0, b1, b2, b3, b4, b5, b6, b7, b8, x9_0, x9_1, x9_2, x9_3, x9_4, x9_5, x9_6, x9_8, rfl, rfl, hup, hF0, hF1, hF2, hF3, hF4, hF5, hF6, hF7, hF8⟩ hall
        have hb0 : b0 = true := getB (l := [b0, b1, b2, b3, b4, b5, b6, b7, b8]) (hall 0 (by decide)) rfl
        have hb1 : b1 = true := getB (l := [b0, b1, b2, b3, b4, b5, b6, b7, b8]) (hall 1 (by decide)) rfl
        have hb2 : b2 = true := getB (l := [b0, b1, b2, b3, b4, b5, b6, b7, b8]) (hall 2 (by decide)) rfl
        have hb3 : b3 = true := getB (l := [b0, b1, b2, b3, b4, b5, b6, b7, b8]) (hall 3 (by decide)) rfl
        have hb4 : b4 = true := getB (l := [b0, b1, b2, b3, b4, b5, b6, b7, b8]) (hall 4 (by decide)) rfl
        have hb5 : b5 = true := getB (l := [b0, b1, b2, b3, b4, b5, b6, b7, b8]) (hall 5 (by decide)) rfl
        have hb6 : b6 = true := getB (l := [b0, b1, b2, b3, b4, b5, b6, b7, b8]) (hall 6 (by decide)) rfl
        have hb7 : b7 = true := getB (l := [b0, b1, b2, b3, b4, b5, b6, b7, b8]) (hall 7 (by decide)) rfl
        have hb8 : b8 = true := getB (l := [b0, b1, b2, b3, b4, b5, b6, b7, b8]) (hall 8 (by decide)) rfl
        subst hb0 hb1 hb2 hb3 hb4 hb5 hb6 hb7 hb8
        clear hall
        have m0 := hF0 rfl
        have m1 := hF1 rfl
        have m2 := hF2 rfl
        have m3 := hF3 rfl
        have m4 := hF4 rfl
        have m5 := hF5 rfl
        have m6 := hF6 rfl
        have m8 := hF8 rfl
        clear hF0 hF1 hF2 hF3 hF4 hF5 hF6 hF7 hF8
        have hzI9 : w.heap.size ≤ wr.heap.size := hupw.size
        have hoI9 : w2.heap.size < wr.heap.size := hk6.lt
        replace hk2 := hk2.up hup
        replace hk6 := hk6.up hup
        replace h0 := h0.up hup
        replace k0 := k0.up hup
        replace hj6 := hj6.up hup
        replace hupw := hupw.trans hup
        clear hup
        obtain ⟨g9_6, s9_6, A9_6, n9_6, c9_6, rfl, hg9_6, hk9_6, he9_6⟩ := m6
        obtain rfl := he9_6 rfl
        clear he9_6
        have h9_6 := m4
        obtain rfl := m0
        obtain rfl := m5
        obtain rfl := m8
        have hk9_6c0 := hk9_6.cell (i := 0) rfl
        have hk9_6c1 := hk9_6.cell (i := 1) rfl
        have hk9_6l := hk9_6.lt
        have hk6c0 := hk6.cell (i := 0) rfl
        have hk6c1 := hk6.cell (i := 1) rfl
        have hk6l := hk6.lt
        have hk6f0 := hk6.frozen 0
        have hk6f1 := hk6.frozen 1
        go_wp2_with fail
        clear hk9_6c0 hk9_6c1 hk9_6l hk6c0 hk6c1 hk6l hk6f0 hk6f1
        obtain ⟨ws4, hws4⟩ : ∃ x, x = ((W9_.setCell ⟨w2.heap.size, 0, none⟩ (.bool s9_6)).setCell ⟨w2.heap.size, 1, none⟩ (.slice A9_6 n9_6 c9_6)) := ⟨_, rfl⟩
        have h0' := h0.st2 hk6 (noU2 _ _ _ _) (.bool s9_6) (.slice A9_6 n9_6 c9_6)
        have k0' := k0.st2 hk6 (noU2 _ _ _ _) (.bool s9_6) (.slice A9_6 n9_6 c9_6)
        have hj6' := hj6.st2 hk6 (noU2 _ _ _ _) (.bool s9_6) (.slice A9_6 n9_6 c9_6)
        have h9_6' := h9_6.st2 hk6 (noU2 _ _ _ _) (.bool s9_6) (.slice A9_6 n9_6 c9_6)
        rw [← hws4] at h0'
        clear h0
        have h0 := h0'
        clear h0'
        rw [← hws4] at k0'
        clear k0
        have k0 := k0'
        clear k0'
        rw [← hws4] at hj6'
        clear hj6
        have hj6 := hj6'
        clear hj6'
        rw [← hws4] at h9_6'
        clear h9_6
        have h9_6 := h9_6'
        clear h9_6'
        replace hk2 := hk2.far2 (g' := w2.heap.size) (by omega) (.bool s9_6) (.slice A9_6 n9_6 c9_6)
        rw [← hws4] at hk2
        replace hk9_6 := hk9_6.far2 (g' := w2.heap.size) (by omega) (.bool s9_6) (.slice A9_6 n9_6 c9_6)
        rw [← hws4] at hk9_6
        replace hupw := hupw.two (g := w2.heap.size) (by omega) (.bool s9_6) (.slice A9_6 n9_6 c9_6)
        rw [← hws4] at hupw
        replace hk6 := hk6.two_bk (.bool s9_6) (.slice A9_6 n9_6 c9_6)
        rw [← hws4] at hk6
        have hszws4 : ws4.heap.size = W9_.heap.size := by rw [hws4]; simp
        rw [← hws4]
        clear hws4
        clear hszws4
        go_roundw
        case rel => exact ⟨j + 1, _, _, _, _, by omega, by go_num, hk6, h9_6.congr (pow_next _ _), hk2, h0, k0, hupw⟩
        case measure => simp [intOf]; omega
    · skip
      go_wp2_with fail
      refine region_inv (fun lz az W => ∃ (b0 b1 b2 b3 b4 b5 b6 b7 b8 : Bool) (x9_0 x9_1 x9_2 x9_3 x9_4 x9_5 x9_6 x9_8 : Value), lz = #[b0, b1, b2, b3, b4, b5, b6, b7, b8] ∧ az = { tmps := #[.agg #[.bool s0, .slice A0 n0 c0, .bool t0, .slice B0 m0 d0], .int .i64 (d : Int), .pointer (some ⟨w.heap.size, 0, none⟩), undef, u4, u5, .pointer (some ⟨w2.heap.size, 0, none⟩), .int .i64 (j : Int), x9_6, x9_8, undef, undef, undef, undef, .agg #[.bool s0, .slice A0 n0 c0, .bool t0, .slice B0 m0 d0], .bool true, .bool false, .int .i64 (d : Int), .bool (decide ((d : Int) < 0)), .bool (decide ((d : Int) < 0)), .int .i64 (d : Int), .bool (decide (20 < (d : Int))), .bool (decide ((d : Int) < 0) || decide (20 < (d : Int))), .pointer (some ⟨w.heap.size, 0, none⟩), .agg #[.bool s0, .slice A0 n0 c0], .int .i64 (j : Int), .int .i64 (d : Int), .bool true, u28, u29, x9_3, x9_0, x9_1, x9_2, x9_4, x9_5, u36, u37, u38, u39, undef, undef, undef, undef, undef, undef, undef, undef, undef, undef, undef, undef, undef, undef, undef, undef, undef, undef, undef, undef, undef, undef, undef, undef, undef, undef, undef, undef, undef, undef, undef, undef, undef, undef, undef, undef, undef, undef, undef, undef], defers := [] } ∧ Up wr W ∧ (b0 = true → x9_0 = .agg #[.bool sj, .slice Aj nj cj]) ∧ (b1 = true → Iz W x9_1 10) ∧ (b2 = true → ∃ v0 : Value, x9_2 = .tuple #[v0, .int .i64 3] ∧ Iz W v0 0) ∧ (b3 = true → ∃ v0 : Value, x9_3 = .tuple #[v0, .int .i64 3] ∧ Iz W v0 0) ∧ (b4 = true → Iz W x9_4 0) ∧ (b5 = true → x9_5 = .int .i64 3) ∧ (b6 = true → Box (wr.heap.size) W x9_6 b7 x9_4) ∧ (b7 = true → b6 = true ∧ b4 = true) ∧ (b8 = true → x9_8 = .int .i64 3)) (by kernel_rfl) (by kernel_rfl) ?hs ?h0 ?hstep ?hQ
      case hs => rintro l a W ⟨b0, b1, b2, b3, b4, b5, b6, b7, b8, x9_0, x9_1, x9_2, x9_3, x9_4, x9_5, x9_6, x9_8, rfl, rfl, hup, hF0, hF1, hF2, hF3, hF4, hF5, hF6, hF7, hF8⟩; rfl
      case h0 => exact ⟨false, false, false, false, false, false, false, false, false, u31, u32, u33, u30, u34, u35, u8, u9, rfl, rfl, (Up.refl wr).drew, (fun h => by cases h), (fun h => by cases h), (fun h => by cases h), (fun h => by cases h), (fun h => by cases h), (fun h => by cases h), (fun h => by cases h), (fun h => by cases h), (fun h => by cases h)⟩
      case hstep =>
        rintro l a W ⟨b0, b1, b2, b3, b4, b5, b6, b7, b8, x9_0, x9_1, x9_2, x9_3, x9_4, x9_5, x9_6, x9_8, rfl, rfl, hup, hF0, hF1, hF2, hF3, hF4, hF5, hF6, hF7, hF8⟩ i hi
        have hlt : i < 9 := ready_lt hi
        have HF0 := hide hF0
        have HF1 := hide hF1
        have HF2 := hide hF2
        have HF3 := hide hF3
        have HF4 := hide hF4
        have HF5 := hide hF5
        have HF6 := hide hF6
        have HF7 := hide hF7
        have HF8 := hide hF8
        clear hF0 hF1 hF2 hF3 hF4 hF5 hF6 hF7 hF8
        have hcase : i = 0 ∨ i = 1 ∨ i = 2 ∨ i = 3 ∨ i = 4 ∨ i = 5 ∨ i = 6 ∨ i = 7 ∨ i = 8 := by omega
        clear hlt
        rcases hcase with rfl | rfl | rfl | rfl | rfl | rfl | rfl | rfl | rfl
        · skip
          have kc0 := (hk6.up hup).cell (i := 0) rfl
          have kc1 := (hk6.up hup).cell (i := 1) rfl
          clear hi
          refine wpOp_step rfl (fun K hK => ?_)
          go_simp
          refine hK _ _ ?_
          clear hK K
          exact ⟨true, b1, b2, b3, b4, b5, b6, b7, b8, .agg #[.bool sj, .slice Aj nj cj], x9_1, x9_2, x9_3, x9_4, x9_5, x9_6, x9_8, rfl, rfl, hup, (fun _ => rfl), HF1.out, HF2.out, HF3.out, HF4.out, HF5.out, HF6.out, HF7.out, HF8.out⟩
        · skip
          clear hi
          refine wpOp_step rfl (fun K hK => ?_)
          go_simp
          refine (rofQ 10 (by decide) (by decide)).mono ?_
          rintro e w1 ⟨v1, rfl, hv1, hup1⟩
          go_wp2_with fail
          exact ⟨b0, true, b2, b3, b4, b5, b6, b7, b8, x9_0, v1, x9_2, x9_3, x9_4, x9_5, x9_6, x9_8, rfl, rfl, hup.trans hup1, HF0.out, (fun _ => hv1), (fun h => by obtain ⟨q0, rq, r0⟩ := HF2.out h; exact ⟨q0, rq, r0.up hup1⟩), (fun h => by obtain ⟨q0, rq, r0⟩ := HF3.out h; exact ⟨q0, rq, r0.up hup1⟩), (fun h => (HF4.out h).up hup1), HF5.out, (fun h => (HF6.out h).up hup1), HF7.out, HF8.out⟩
        · skip
          have hb : b0 = true := getB (l := [b0, b1, b2, b3, b4, b5, b6, b7, b8]) (ready_dep hi rfl 0 (by kernel_rfl)) rfl
          have hx := HF0.out hb
          clear hb
          subst hx
          have hb1q : b1 = true := getB (l := [b0, b1, b2, b3, b4, b5, b6, b7, b8]) (ready_dep hi rfl 1 (by kernel_rfl)) rfl
          have hx1 := hide (HF1.out hb1q)
          clear hb1q
          clear hi
          refine wpOp_step rfl (fun K hK => ?_)
          go_simp
          refine (rmulN (hj6.up hup) hx1.out hb1).mono ?_
          rintro e w1 ⟨v0, rfl, hv0, hup1⟩
          go_wp2_with fail
          exact ⟨b0, b1, true, b3, b4, b5, b6, b7, b8, .agg #[.bool sj, .slice Aj nj cj], x9_1, .tuple #[v0, .int .i64 3], x9_3, x9_4, x9_5, x9_6, x9_8, rfl, rfl, hup.trans hup1, (fun _ => rfl), (fun h => (HF1.out h).up hup1), (fun _ => ⟨v0, rfl, hv0⟩), (fun h => by obtain ⟨q0, rq, r0⟩ := HF3.out h; exact ⟨q0, rq, r0.up hup1⟩), (fun h => (HF4.out h).up hup1), HF5.out, (fun h => (HF6.out h).up hup1), HF7.out, HF8.out⟩
        · skip
          have hb : b2 = true := getB (l := [b0, b1, b2, b3, b4, b5, b6, b7, b8]) (ready_dep hi rfl 2 (by kernel_rfl)) rfl
          have hx := hide (HF2.out hb)
          clear hb
          clear hi
          refine wpOp_step rfl (fun K hK => ?_)
          go_simp
          refine hK _ _ ?_
          clear hK K
          exact ⟨b0, b1, b2, true, b4, b5, b6, b7, b8, x9_0, x9_1, x9_2, x9_2, x9_4, x9_5, x9_6, x9_8, rfl, rfl, hup, HF0.out, HF1.out, HF2.out, (fun _ => hx.out), HF4.out, HF5.out, HF6.out, HF7.out, HF8.out⟩
        · skip
          have hb : b3 = true := getB (l := [b0, b1, b2, b3, b4, b5, b6, b7, b8]) (ready_dep hi rfl 3 (by kernel_rfl)) rfl
          have Hb := hide hb
          obtain ⟨v0, hxe, hv0⟩ := HF3.out hb
          clear hb
          subst hxe
          have hn := ready_not hi
          have hst7 : b7 = false := by
            cases e : b7 with
            | false => rfl
            | true => have h5 := (HF7.out e).2; rw [h5] at hn; cases hn
          have Hst7 := hide hst7
          clear hst7
          clear hn
          clear hi
          refine wpOp_step rfl (fun K hK => ?_)
          go_simp
          refine hK _ _ ?_
          clear hK K
          exact ⟨b0, b1, b2, b3, true, b5, b6, b7, b8, x9_0, x9_1, x9_2, .tuple #[v0, .int .i64 3], v0, x9_5, x9_6, x9_8, rfl, rfl, hup, HF0.out, HF1.out, HF2.out, HF3.out, (fun _ => hv0), HF5.out, (fun h => ((HF6.out h).up (Up.refl _)).unfilled Hst7.out _), (fun h => ⟨(HF7.out h).1, rfl⟩), HF8.out⟩
        · skip
          have hb : b3 = true := getB (l := [b0, b1, b2, b3, b4, b5, b6, b7, b8]) (ready_dep hi rfl 3 (by kernel_rfl)) rfl
          have Hb := hide hb
          obtain ⟨v0, hxe, hv0⟩ := HF3.out hb
          clear hb
          subst hxe
          clear hi
          refine wpOp_step rfl (fun K hK => ?_)
          go_simp
          refine hK _ _ ?_
          clear hK K
          exact ⟨b0, b1, b2, b3, b4, true, b6, b7, b8, x9_0, x9_1, x9_2, .tuple #[v0, .int .i64 3], x9_4, .int .i64 3, x9_6, x9_8, rfl, rfl, hup, HF0.out, HF1.out, HF2.out, HF3.out, HF4.out, (fun _ => rfl), HF6.out, HF7.out, HF8.out⟩
        · skip
          have hn := ready_not hi
          have hst7 : b7 = false := by
            cases e : b7 with
            | false => rfl
            | true => have h5 := (HF7.out e).1; rw [h5] at hn; cases hn
          have Hst7 := hide hst7
          clear hst7
          clear hn
          clear hi
          have hsz := hup.size
          have hupA := (Up.refl W).alloc (.cells #[.bool false, .slice none 0 0] 24)
          refine wpOp_step rfl (fun K hK => ?_)
          go_simp
          refine hK _ _ ?_
          clear hK K
          exact ⟨b0, b1, b2, b3, b4, b5, true, b7, b8, x9_0, x9_1, x9_2, x9_3, x9_4, x9_5, .pointer (some ⟨W.heap.size, 0, none⟩), x9_8, rfl, rfl, hup.trans hupA, HF0.out, (fun h => (HF1.out h).up hupA), (fun h => by obtain ⟨q0, rq, r0⟩ := HF2.out h; exact ⟨q0, rq, r0.up hupA⟩), (fun h => by obtain ⟨q0, rq, r0⟩ := HF3.out h; exact ⟨q0, rq, r0.up hupA⟩), (fun h => (HF4.out h).up hupA), HF5.out, (fun _ => by rw [Hst7.out]; exact Box.new _ W _ hsz), (fun h => ⟨rfl, (HF7.out h).2⟩), HF8.out⟩
        · skip
          have hb2 : b6 = true := getB (l := [b0, b1, b2, b3, b4, b5, b6, b7, b8]) (ready_dep hi rfl 6 (by kernel_rfl)) rfl
          have hb1 : b4 = true := getB (l := [b0, b1, b2, b3, b4, b5, b6, b7, b8]) (ready_dep hi rfl 4 (by kernel_rfl)) rfl
          clear hi
          obtain ⟨s9, A9, n9, c9, hxc⟩ := (HF4.out hb1).agg
          subst hxc
          obtain ⟨g, s8, A8, n8, c8, hxb, hgB, hbk, _⟩ := HF6.out hb2
          subst hxb
          have f0 := hbk.cell (i := 0) rfl
          have z0 := hbk.frozen 0
          have f1 := hbk.cell (i := 1) rfl
          have z1 := hbk.frozen 1
          have Hb1 := hide hb1
          have Hb2 := hide hb2
          have hsz := hup.size
          clear hb1 hb2
          refine wpOp_step rfl (fun K hK => ?_)
          go_simp
          refine hK _ _ ?_
          clear hK K
          exact ⟨b0, b1, b2, b3, b4, b5, b6, true, b8, x9_0, x9_1, x9_2, x9_3, .agg #[.bool s9, .slice A9 n9 c9], x9_5, .pointer (some ⟨g, 0, none⟩), x9_8, rfl, rfl, hup.two (g := g) hgB _ _, HF0.out, (fun h => (HF1.out h).st2 hbk (noU2 _ _ _ _) _ _), (fun h => by obtain ⟨q0, rq, r0⟩ := HF2.out h; exact ⟨q0, rq, r0.st2 hbk (noU2 _ _ _ _) _ _⟩), (fun h => by obtain ⟨q0, rq, r0⟩ := HF3.out h; exact ⟨q0, rq, r0.st2 hbk (noU2 _ _ _ _) _ _⟩), (fun h => (HF4.out h).st2 hbk (noU2 _ _ _ _) _ _), HF5.out, (fun _ => hbk.fill hgB), (fun _ => ⟨Hb2.out, Hb1.out⟩), HF8.out⟩
        · skip
          have hb : b5 = true := getB (l := [b0, b1, b2, b3, b4, b5, b6, b7, b8]) (ready_dep hi rfl 5 (by kernel_rfl)) rfl
          have hx := hide (HF5.out hb)
          clear hb
          clear hi
          refine wpOp_step rfl (fun K hK => ?_)
          go_simp
          refine hK _ _ ?_
          clear hK K
          exact ⟨b0, b1, b2, b3, b4, b5, b6, b7, true, x9_0, x9_1, x9_2, x9_3, x9_4, x9_5, x9_6, x9_5, rfl, rfl, hup, HF0.out, HF1.out, HF2.out, HF3.out, HF4.out, HF5.out, HF6.out, HF7.out, (fun _ => hx.out)⟩
      case hQ =>
        rintro l a W9_ ⟨b0, b1, b2, b3, b4, b5, b6, b7, b8, x9_0, x9_1, x9_2, x9_3, x9_4, x9_5, x9_6, x9_8, rfl, rfl, hup, hF0, hF1, hF2, hF3, hF4, hF5, hF6, hF7, hF8⟩ hall
        have hb0 : b0 = true := getB (l := [b0, b1, b2, b3, b4, b5, b6, b7, b8]) (hall 0 (by decide)) rfl
        have hb1 : b1 = true := getB (l := [b0, b1, b2, b3, b4, b5, b6, b7, b8]) (hall 1 (by decide)) rfl
        have hb2 : b2 = true := getB (l := [b0, b1, b2, b3, b4, b5, b6, b7, b8]) (hall 2 (by decide)) rfl
        have hb3 : b3 = true := getB (l := [b0, b1, b2, b3, b4, b5, b6, b7, b8]) (hall 3 (by decide)) rfl
        have hb4 : b4 = true := getB (l := [b0, b1, b2, b3, b4, b5, b6, b7, b8]) (hall 4 (by decide)) rfl
        have hb5 : b5 = true := getB (l := [b0, b1, b2, b3, b4, b5, b6, b7, b8]) (hall 5 (by decide)) rfl
        have hb6 : b6 = true := getB (l := [b0, b1, b2, b3, b4, b5, b6, b7, b8]) (hall 6 (by decide)) rfl
        have hb7 : b7 = true := getB (l := [b0, b1, b2, b3, b4, b5, b6, b7, b8]) (hall 7 (by decide)) rfl
        have hb8 : b8 = true := getB (l := [b0, b1, b2, b3, b4, b5, b6, b7, b8]) (hall 8 (by decide)) rfl
        subst hb0 hb1 hb2 hb3 hb4 hb5 hb6 hb7 hb8
        clear hall
        have m0 := hF0 rfl
        have m1 := hF1 rfl
        have m2 := hF2 rfl
        have m3 := hF3 rfl
        have m4 := hF4 rfl
        have m5 := hF5 rfl
        have m6 := hF6 rfl
        have m8 := hF8 rfl
        clear hF0 hF1 hF2 hF3 hF4 hF5 hF6 hF7 hF8
        have hzI9 : w.heap.size ≤ wr.heap.size := hupw.size
        have hoI9 : w2.heap.size < wr.heap.size := hk6.lt
        replace hupw := hupw.trans hup
        clear hup
        obtain ⟨g9_6, s9_6, A9_6, n9_6, c9_6, rfl, hg9_6, hk9_6, he9_6⟩ := m6
        obtain rfl := he9_6 rfl
        clear he9_6
        have h9_6 := m4
        obtain rfl := m0
        obtain rfl := m5
        obtain rfl := m8
        go_wp2_with fail
        go_ret2
        exact ⟨rfl, hupw⟩


end Go.Proofs.YtldifgfpecicnaaGreatDoor
