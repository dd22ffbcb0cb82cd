/- What the laws' awake returns. -/
import Derived.Test.YtijcijdgpeolhaaDoorH0
import Derived.Deep.RegionHeld3
import Derived.Deep.RegionWith
namespace Go.Proofs.YtijcijdgpeolhaaDoor
open Go.RowKit

set_option maxHeartbeats 4000000 in
theorem awake_any (w : World) : Calls Tryd.prog 6 #[] w fun e w' => e = .returned (.bool true) ∧ Up w w' := by
  go_enter Tryd.func6, Tryd.ntmps6
  go_wp2_with fail
  refine (ofI (-1000000007) _ (by decide) (by decide)).mono ?_
  rintro e w1 ⟨v1, rfl, hv1, hup1⟩
  obtain ⟨s1, A1, n1, c1, rfl, Hs1, Hn1, hl1, hc1, _⟩ := hv1
  have hi1 : IsInt 0 _ _ _ := ⟨s1, A1, n1, c1, rfl, Hs1, Hn1, hl1, hc1, fun _ _ => Nat.zero_le _⟩
  go_wp2_with fail
  obtain ⟨wa, hwa⟩ : ∃ x, x = w1.alloc (.cells #[.bool s1, .slice A1 n1 c1] 25) := ⟨_, rfl⟩
  have bk1 : Bk wa w1.heap.size 25 #[.bool s1, .slice A1 n1 c1] := by rw [hwa]; exact Bk.new w1 _ _
  have upa : Up w1 wa := by rw [hwa]; exact (Up.refl w1).alloc _
  have hz1 : wa.heap.size = w1.heap.size + 1 := by rw [hwa]; simp
  have Hz1 := hide hz1
  rw [← hwa]
  clear hwa hz1
  refine (ofI (-7) _ (by decide) (by decide)).mono ?_
  rintro e w2 ⟨v2, rfl, hv2, hup2⟩
  go_wp2_with fail
  refine (ofI 2 _ (by decide) (by decide)).mono ?_
  rintro e w3 ⟨v3, rfl, hv3, hup3⟩
  go_wp2_with fail
  refine (divI_any _ _ _ _ (-7) 2 _ (hv2.up hup3) hv3 (i64_top (by decide) (by decide)) (i64_top (by decide) (by decide)) (by decide) (fun h => absurd h (by decide))).mono ?_
  rintro e w4 ⟨v4, v5, rfl, hv4, hv5, hup4⟩
  rw [show (-7 : Int).tdiv 2 = -3 from rfl] at hv4
  rw [show (-7 : Int).tmod 2 = -1 from rfl] at hv5
  obtain ⟨s4, A4, n4, c4, rfl, Hs4, Hn4, hl4, hc4, _⟩ := hv4
  have hi4 : IsInt 0 _ _ _ := ⟨s4, A4, n4, c4, rfl, Hs4, Hn4, hl4, hc4, fun _ _ => Nat.zero_le _⟩
  obtain ⟨s5, A5, n5, c5, rfl, Hs5, Hn5, hl5, hc5, _⟩ := hv5
  have hi5 : IsInt 0 _ _ _ := ⟨s5, A5, n5, c5, rfl, Hs5, Hn5, hl5, hc5, fun _ _ => Nat.zero_le _⟩
  go_wp2_with fail
  obtain ⟨wb, hwb⟩ : ∃ x, x = (w4.alloc (.cells #[.bool s4, .slice A4 n4 c4] 25)).alloc (.cells #[.bool s5, .slice A5 n5 c5] 25) := ⟨_, rfl⟩
  have bk4 : Bk wb w4.heap.size 25 #[.bool s4, .slice A4 n4 c4] := by rw [hwb]; exact (two_new w4 _ _ _ _).1
  have bk5 : Bk wb (w4.heap.size + 1) 25 #[.bool s5, .slice A5 n5 c5] := by rw [hwb]; exact (two_new w4 _ _ _ _).2
  have upb : Up w4 wb := by rw [hwb]; exact ((Up.refl w4).alloc _).alloc _
  rw [← hwb]
  clear hwb
  refine (ofI (-12) _ (by decide) (by decide)).mono ?_
  rintro e w5 ⟨v6, rfl, hv6, hup5⟩
  go_wp2_with fail
  refine (ofI 18 _ (by decide) (by decide)).mono ?_
  rintro e w6 ⟨v7, rfl, hv7, hup6⟩
  go_wp2_with fail
  refine (gcdI_any _ _ _ _ (-12) 18 _ (hv6.up hup6) hv7 (i64_top (by decide) (by decide)) (i64_top (by decide) (by decide)) (.inr (by decide))).mono ?_
  rintro e w7 ⟨v8, rfl, hv8, hup7⟩
  rw [show ((Nat.gcd (-12 : Int).natAbs (18 : Int).natAbs : Nat) : Int) = 6 from rfl] at hv8
  obtain ⟨s8, A8, n8, c8, rfl, Hs8, Hn8, hl8, hc8, _⟩ := hv8
  have hi8 : IsInt 0 _ _ _ := ⟨s8, A8, n8, c8, rfl, Hs8, Hn8, hl8, hc8, fun _ _ => Nat.zero_le _⟩
  go_wp2_with fail
  obtain ⟨wc, hwc⟩ : ∃ x, x = w7.alloc (.cells #[.bool s8, .slice A8 n8 c8] 25) := ⟨_, rfl⟩
  have bk8 : Bk wc w7.heap.size 25 #[.bool s8, .slice A8 n8 c8] := by rw [hwc]; exact Bk.new w7 _ _
  have upc : Up w7 wc := by rw [hwc]; exact (Up.refl w7).alloc _
  rw [← hwc]
  clear hwc
  refine (parse_minus _).mono ?_
  rintro e w8 ⟨v9, rfl, hv9, hup8⟩
  obtain ⟨s9, A9, n9, c9, rfl, Hs9, Hn9, hl9, hc9, _⟩ := hv9
  have hi9 : IsInt 0 _ _ _ := ⟨s9, A9, n9, c9, rfl, Hs9, Hn9, hl9, hc9, fun _ _ => Nat.zero_le _⟩
  go_wp2_with fail
  obtain ⟨wd, hwd⟩ : ∃ x, x = w8.alloc (.cells #[.bool s9, .slice A9 n9 c9] 25) := ⟨_, rfl⟩
  have upd : Up w8 wd := by rw [hwd]; exact (Up.refl w8).alloc _
  rw [← hwd]
  clear hwd
  refine (parse_seven _).mono ?_
  rintro e w9 ⟨v10, rfl, hv10, hup9⟩
  obtain ⟨s10, A10, n10, c10, rfl, Hs10, Hn10, hl10, hc10, _⟩ := hv10
  have hi10 : IsInt 0 _ _ _ := ⟨s10, A10, n10, c10, rfl, Hs10, Hn10, hl10, hc10, fun _ _ => Nat.zero_le _⟩
  go_wp2_with fail
  obtain ⟨wf, hwf⟩ : ∃ x, x = w9.alloc (.cells #[.bool s10, .slice A10 n10 c10] 25) := ⟨_, rfl⟩
  have upf : Up w9 wf := by rw [hwf]; exact (Up.refl w9).alloc _
  rw [← hwf]
  clear hwf
  have u7 : Up wc wf := ((hup8.trans upd).trans hup9).trans upf
  have u4 : Up wb wf := (((hup5.trans hup6).trans hup7).trans upc).trans u7
  have u1 : Up wa wf := ((((hup2.trans hup3).trans hup4).trans upb)).trans u4
  have uw : Up w wf := (hup1.trans upa).trans u1
  have bk1' := bk1.up u1
  have bk4' := bk4.up u4
  have bk5' := bk5.up u4
  have bk8' := bk8.up u7
  have hj1 := hi1.up (upa.trans u1)
  have hj4 := hi4.up (upb.trans u4)
  have hj5 := hi5.up (upb.trans u4)
  have hj8 := hi8.up (upc.trans u7)
  have k1 : wf.cell? ⟨w1.heap.size, 0, none⟩ = some (.bool s1) := bk1'.cell (i := 0) rfl
  have k2 : wf.cell? ⟨w1.heap.size, 1, none⟩ = some (.slice A1 n1 c1) := bk1'.cell (i := 1) rfl
  have k3 : wf.cell? ⟨w4.heap.size, 0, none⟩ = some (.bool s4) := bk4'.cell (i := 0) rfl
  have k4 : wf.cell? ⟨w4.heap.size, 1, none⟩ = some (.slice A4 n4 c4) := bk4'.cell (i := 1) rfl
  have k5 : wf.cell? ⟨w4.heap.size + 1, 0, none⟩ = some (.bool s5) := bk5'.cell (i := 0) rfl
  have k6 : wf.cell? ⟨w4.heap.size + 1, 1, none⟩ = some (.slice A5 n5 c5) := bk5'.cell (i := 1) rfl
  have k7 : wf.cell? ⟨w7.heap.size, 0, none⟩ = some (.bool s8) := bk8'.cell (i := 0) rfl
  have k8 : wf.cell? ⟨w7.heap.size, 1, none⟩ = some (.slice A8 n8 c8) := bk8'.cell (i := 1) rfl
  clear bk1 bk4 bk5 bk8 hi1 hi4 hi5 hi8 hi9 hi10 hl1 hl4 hl5 hl8 hl9 hl10 hv2 hv3 hv6 hv7 u7 u4 u1 bk1' bk4' bk5' bk8' hup1 hup2 hup3 hup4 hup5 hup6 hup7 hup8 hup9 upa upb upc upd upf Hz1 Hs9 Hn9 hc9 Hs10 Hn10 hc10 Hs1 Hn1 Hs4 Hn4 Hs5 Hn5 Hs8 Hn8
  have upA : Up wf wf.drew := (Up.refl wf).drew
  have upL : Up wf (wf.alloc (.cells #[.int .u32 7, .int .u32 1] 41)).drew := ((Up.refl wf).alloc _).drew
  have hlit : IsInt 0 (wf.alloc (.cells #[.int .u32 7, .int .u32 1] 41)).drew (.agg #[.bool true, .slice (some ⟨wf.heap.size, 0, none⟩) 2 2]) (-1000000007) := (lit_int wf [7, 1] _ true 2 _ rfl (by omega) rfl lim_awake rfl).up ((Up.refl _).drew)
  go_region_held3 (fun w' => w'.cell? ⟨w1.heap.size, 0, none⟩ = some (.bool s1) ∧ w'.cell? ⟨w1.heap.size, 1, none⟩ = some (.slice A1 n1 c1) ∧ w'.cell? ⟨w4.heap.size, 0, none⟩ = some (.bool s4) ∧ w'.cell? ⟨w4.heap.size, 1, none⟩ = some (.slice A4 n4 c4) ∧ w'.cell? ⟨w4.heap.size + 1, 0, none⟩ = some (.bool s5) ∧ w'.cell? ⟨w4.heap.size + 1, 1, none⟩ = some (.slice A5 n5 c5) ∧ w'.cell? ⟨w7.heap.size, 0, none⟩ = some (.bool s8) ∧ w'.cell? ⟨w7.heap.size, 1, none⟩ = some (.slice A8 n8 c8))
    (first | (exact ⟨upA.keep k1, upA.keep k2, upA.keep k3, upA.keep k4, upA.keep k5, upA.keep k6, upA.keep k7, upA.keep k8⟩) | (exact ⟨upL.keep k1, upL.keep k2, upL.keep k3, upL.keep k4, upL.keep k5, upL.keep k6, upL.keep k7, upL.keep k8⟩))
    (first
      | (go_at_call_of 13 A1; refine (equalI _ _ _ _ (-1000000007) _ (hj1.up upL) hlit (i64_top (by decide) (by decide))).mono ?_; rintro e wx ⟨rfl, hupx⟩; replace upA := upL.trans hupx)
      | (go_at_call_of 13 A4; refine (equalI _ _ _ _ (-3) _ (hj4.up upA) hvr (i64_top (by decide) (by decide))).mono ?_; rintro e wx ⟨rfl, hupx⟩; replace upA := upA.trans hupx)
      | (go_at_call_of 13 A5; refine (equalI _ _ _ _ (-1) _ (hj5.up upA) hvr (i64_top (by decide) (by decide))).mono ?_; rintro e wx ⟨rfl, hupx⟩; replace upA := upA.trans hupx)
      | (go_at_call_of 13 A8; refine (equalI _ _ _ _ 6 _ (hj8.up upA) hvr (i64_top (by decide) (by decide))).mono ?_; rintro e wx ⟨rfl, hupx⟩; replace upA := upA.trans hupx)
      | (go_at_call 20; refine (rofI _ _ (by decide) (by decide)).mono ?_; rintro e wx ⟨vr, rfl, hvr, hupx⟩; replace upA := upA.trans hupx))
  go_wp2
  go_ret
  exact ⟨rfl, uw.trans upA⟩
end Go.Proofs.YtijcijdgpeolhaaDoor
