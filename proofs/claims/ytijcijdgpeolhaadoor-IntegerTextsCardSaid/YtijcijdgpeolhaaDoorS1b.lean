/- The reference's Small: what an int64 holds. -/
import Derived.Test.YtijcijdgpeolhaaDoorS1
namespace Go.Proofs.YtijcijdgpeolhaaDoor
open Go.RowKit

theorem lim_get3 (k : Nat) (h : k < 1000000000000000000000000000) : (lim k).getD 0 0 + 1000000000 * (lim k).getD 1 0 + 1000000000000000000 * (lim k).getD 2 0 = k := by
  by_cases h0 : k = 0
  · subst h0; rw [lim_zero]; rfl
  · rw [lim_pos h0]
    by_cases h1 : k / 1000000000 = 0
    · rw [h1, lim_zero]; simp; omega
    · rw [lim_pos h1]
      by_cases h2 : k / 1000000000 / 1000000000 = 0
      · rw [h2, lim_zero]; simp; omega
      · rw [lim_pos h2]; simp; omega
set_option maxHeartbeats 2000000 in
theorem rsmall_neg (B : Nat) (v : Value) (x : Int) (w : World) (hv : IsInt B w v x) (hx : x.natAbs < top300) (hs : -9223372036854775808 ≤ x) (hs2 : x < 0) : Calls Tryd.prog 11 #[v] w (RetSmall w x) := by
  have HV := hide (sm_ok (z := x) (by omega) (by omega))
  obtain ⟨z1, hz1⟩ : ∃ z1, z1 = cmpZ x (-9223372036854775808) := ⟨_, rfl⟩
  have hzn : decide (z1 < 0) = false := decide_eq_false (by rw [hz1]; exact cmpZ_ge (by omega))
  have HC1 := hide hz1.symm
  obtain ⟨z2, hz2⟩ : ∃ z2, z2 = cmpZ x 9223372036854775807 := ⟨_, rfl⟩
  have hzp : decide (0 < z2) = false := decide_eq_false (by rw [hz2]; exact cmpZ_le (by omega))
  have HC2 := hide hz2.symm
  clear hz1 hz2
  obtain ⟨k, hk⟩ : ∃ k, k = x.natAbs := ⟨_, rfl⟩
  have hkb : k ≤ 9223372036854775808 := by rw [hk]; omega
  obtain ⟨x0, h0⟩ : ∃ y, y = (lim k).getD 0 0 := ⟨_, rfl⟩
  obtain ⟨x1, h1⟩ : ∃ y, y = (lim k).getD 1 0 := ⟨_, rfl⟩
  obtain ⟨x2, h2⟩ : ∃ y, y = (lim k).getD 2 0 := ⟨_, rfl⟩
  have hx0 : x0 < 1000000000 := by rw [h0]; exact dig_getD (dig_lim k) 0
  have hx1 : x1 < 1000000000 := by rw [h1]; exact dig_getD (dig_lim k) 1
  have hx2 : x2 < 1000000000 := by rw [h2]; exact dig_getD (dig_lim k) 2
  have HJ : Hid (x0 + 1000000000 * x1 + 1000000000000000000 * x2 = k) := by show _ = _; rw [h0, h1, h2]; exact lim_get3 k (by omega)
  have HJW : Hid (IntKind.u64.wrap (IntKind.u64.wrap (IntKind.u64.wrap (IntKind.u64.wrap ((x2 : Int) * 1000000000) * 1000000000) + IntKind.u64.wrap ((x1 : Int) * 1000000000)) + (x0 : Int)) = (k : Int)) := by show _ = _; rw [IntKind.wrap_u64, IntKind.wrap_u64, IntKind.wrap_u64, IntKind.wrap_u64, IntKind.wrap_u64]; have := HJ.out; omega
  have HW := hide (negw k hkb)
  have HX : Hid (-(k : Int) = x) := by show _ = _; omega
  have H0 := hide h0
  have H1 := hide h1
  have H2 := hide h2
  have HK := hide hk
  have HSG : Hid (∀ s : Bool, s = decide (x < 0) → s = true) := fun s h => by rw [h]; simp; omega
  clear hk hkb h0 h1 h2 hs2
  have hv0 := hv
  obtain ⟨s, A, n, c, rfl, Hs, Hn, hl, hc, _⟩ := hv
  clear hs
  obtain rfl : s = true := HSG.out s Hs.out
  obtain ⟨w0, hw0⟩ : ∃ w0, w0 = (w.alloc (.cells #[.bool true, .slice A n c] 25)) := ⟨_, rfl⟩
  have hb1 : Bk w0 (w.heap.size) 25 #[.bool true, .slice A n c] := by
    have := Bk.new w 25 #[.bool true, .slice A n c]
    rw [hw0]; simpa using this
  have hup0 : Up w w0 := by rw [hw0]; exact (Up.refl w).alloc _
  have Hw0 := hide hw0
  clear hw0
  have e1a := hb1.cell (i := 0) rfl
  have e1b := hb1.cell (i := 1) rfl
  go_enter Tryd.func11, Tryd.ntmps11
  go_wp2_with fail
  rw [← Hw0.out]
  have hupA : Up w w0.drew := hup0.drew
  have hupB : Up w0 w0.drew := (Up.refl w0).drew
  have ca : w0.drew.cell? ⟨w.heap.size, 0, none⟩ = some (.bool true) := hupB.keep e1a
  have cb : w0.drew.cell? ⟨w.heap.size, 1, none⟩ = some (.slice A n c) := hupB.keep e1b
  go_region_with
    (first
      | (go_at_call 20; refine (rofI _ _ (by decide) (by decide)).mono ?_; rintro e w2 ⟨v2, rfl, hvz, hupz⟩; replace hupA := hupA.trans hupz; replace ca : w2.cell? ⟨w.heap.size, 0, none⟩ = some (.bool true) := hupz.keep ca; replace cb : w2.cell? ⟨w.heap.size, 1, none⟩ = some (.slice A n c) := hupz.keep cb)
      | (go_at_call 34; refine (rcmpI_any _ _ _ _ x _ _ (hv0.up hupA) hvz hx (i64_top (by decide) (by decide))).mono ?_; rintro e w3 ⟨rfl, hupz⟩; (first | rw [HC1.out] | rw [HC2.out]); replace hupA := hupA.trans hupz; replace ca : w3.cell? ⟨w.heap.size, 0, none⟩ = some (.bool true) := hupz.keep ca; replace cb : w3.cell? ⟨w.heap.size, 1, none⟩ = some (.slice A n c) := hupz.keep cb))
  all_goals
    go_wp2_with fail
    have cb2 : _ = some (Value.slice A n c) := ((Up.refl _).drew).keep cb
    have hupC := hupA.drew
    have L2 : ∀ w', Up w w' → Calls Tryd.prog 35 #[.slice A n c, .int .i64 2] w' (fun e w'' => e = .returned (.int .u64 (x2 : Nat)) ∧ w' = w'') := fun w' (h : Up w w') => limb_any A c (lim x.natAbs) w' (hl.up h) n 2 x2 Hn (HK.out ▸ H2) (by omega)
    have L1 : ∀ w', Up w w' → Calls Tryd.prog 35 #[.slice A n c, .int .i64 1] w' (fun e w'' => e = .returned (.int .u64 (x1 : Nat)) ∧ w' = w'') := fun w' (h : Up w w') => limb_any A c (lim x.natAbs) w' (hl.up h) n 1 x1 Hn (HK.out ▸ H1) (by omega)
    have L0 : ∀ w', Up w w' → Calls Tryd.prog 35 #[.slice A n c, .int .i64 0] w' (fun e w'' => e = .returned (.int .u64 (x0 : Nat)) ∧ w' = w'') := fun w' (h : Up w w') => limb_any A c (lim x.natAbs) w' (hl.up h) n 0 x0 Hn (HK.out ▸ H0) (by omega)
    go_region_held3 (fun w' => w'.cell? ⟨w.heap.size, 1, none⟩ = some (.slice A n c))
      (exact cb2)
      (first
        | (go_at_call 35; with_reducible refine (L2 _ hupC).mono ?_; rintro e w4 ⟨rfl, rfl⟩)
        | (go_at_call 35; with_reducible refine (L1 _ hupC).mono ?_; rintro e w4 ⟨rfl, rfl⟩)
        | (go_at_call 35; with_reducible refine (L0 _ hupC).mono ?_; rintro e w4 ⟨rfl, rfl⟩))
    rw [HJW.out]
    have ca2 : _ = some (Value.bool true) := ((Up.refl _).drew).keep ca
    go_wp2
    go_ret2
    exact ⟨by show Ending.returned (.tuple #[.int .i64 (wrap64 (IntKind.u64.wrap (-(k : Int)))), .int .i64 0]) = _; rw [HW.out, HX.out, HV.out.1, HV.out.2], hupC⟩
set_option maxHeartbeats 2000000 in
theorem rsmall_pos (B : Nat) (v : Value) (x : Int) (w : World) (hv : IsInt B w v x) (hx : x.natAbs < top300) (hs : x ≤ 9223372036854775807) (hs2 : 0 ≤ x) : Calls Tryd.prog 11 #[v] w (RetSmall w x) := by
  have HV := hide (sm_ok (z := x) (by omega) (by omega))
  obtain ⟨z1, hz1⟩ : ∃ z1, z1 = cmpZ x (-9223372036854775808) := ⟨_, rfl⟩
  have hzn : decide (z1 < 0) = false := decide_eq_false (by rw [hz1]; exact cmpZ_ge (by omega))
  have HC1 := hide hz1.symm
  obtain ⟨z2, hz2⟩ : ∃ z2, z2 = cmpZ x 9223372036854775807 := ⟨_, rfl⟩
  have hzp : decide (0 < z2) = false := decide_eq_false (by rw [hz2]; exact cmpZ_le (by omega))
  have HC2 := hide hz2.symm
  clear hz1 hz2
  obtain ⟨k, hk⟩ : ∃ k, k = x.natAbs := ⟨_, rfl⟩
  have hkb : k ≤ 9223372036854775807 := by rw [hk]; omega
  obtain ⟨x0, h0⟩ : ∃ y, y = (lim k).getD 0 0 := ⟨_, rfl⟩
  obtain ⟨x1, h1⟩ : ∃ y, y = (lim k).getD 1 0 := ⟨_, rfl⟩
  obtain ⟨x2, h2⟩ : ∃ y, y = (lim k).getD 2 0 := ⟨_, rfl⟩
  have hx0 : x0 < 1000000000 := by rw [h0]; exact dig_getD (dig_lim k) 0
  have hx1 : x1 < 1000000000 := by rw [h1]; exact dig_getD (dig_lim k) 1
  have hx2 : x2 < 1000000000 := by rw [h2]; exact dig_getD (dig_lim k) 2
  have HJ : Hid (x0 + 1000000000 * x1 + 1000000000000000000 * x2 = k) := by show _ = _; rw [h0, h1, h2]; exact lim_get3 k (by omega)
  have HJW : Hid (IntKind.u64.wrap (IntKind.u64.wrap (IntKind.u64.wrap (IntKind.u64.wrap ((x2 : Int) * 1000000000) * 1000000000) + IntKind.u64.wrap ((x1 : Int) * 1000000000)) + (x0 : Int)) = (k : Int)) := by show _ = _; rw [IntKind.wrap_u64, IntKind.wrap_u64, IntKind.wrap_u64, IntKind.wrap_u64, IntKind.wrap_u64]; have := HJ.out; omega
  have HW := hide (show wrap64 (k : Int) = (k : Int) by unfold wrap64; omega)
  have HX : Hid ((k : Int) = x) := by show _ = _; omega
  have H0 := hide h0
  have H1 := hide h1
  have H2 := hide h2
  have HK := hide hk
  have HSG : Hid (∀ s : Bool, s = decide (x < 0) → s = false) := fun s h => by rw [h]; simp; omega
  clear hk hkb h0 h1 h2 hs2
  have hv0 := hv
  obtain ⟨s, A, n, c, rfl, Hs, Hn, hl, hc, _⟩ := hv
  clear hs
  obtain rfl : s = false := HSG.out s Hs.out
  obtain ⟨w0, hw0⟩ : ∃ w0, w0 = (w.alloc (.cells #[.bool false, .slice A n c] 25)) := ⟨_, rfl⟩
  have hb1 : Bk w0 (w.heap.size) 25 #[.bool false, .slice A n c] := by
    have := Bk.new w 25 #[.bool false, .slice A n c]
    rw [hw0]; simpa using this
  have hup0 : Up w w0 := by rw [hw0]; exact (Up.refl w).alloc _
  have Hw0 := hide hw0
  clear hw0
  have e1a := hb1.cell (i := 0) rfl
  have e1b := hb1.cell (i := 1) rfl
  go_enter Tryd.func11, Tryd.ntmps11
  go_wp2_with fail
  rw [← Hw0.out]
  have hupA : Up w w0.drew := hup0.drew
  have hupB : Up w0 w0.drew := (Up.refl w0).drew
  have ca : w0.drew.cell? ⟨w.heap.size, 0, none⟩ = some (.bool false) := hupB.keep e1a
  have cb : w0.drew.cell? ⟨w.heap.size, 1, none⟩ = some (.slice A n c) := hupB.keep e1b
  go_region_with
    (first
      | (go_at_call 20; refine (rofI _ _ (by decide) (by decide)).mono ?_; rintro e w2 ⟨v2, rfl, hvz, hupz⟩; replace hupA := hupA.trans hupz; replace ca : w2.cell? ⟨w.heap.size, 0, none⟩ = some (.bool false) := hupz.keep ca; replace cb : w2.cell? ⟨w.heap.size, 1, none⟩ = some (.slice A n c) := hupz.keep cb)
      | (go_at_call 34; refine (rcmpI_any _ _ _ _ x _ _ (hv0.up hupA) hvz hx (i64_top (by decide) (by decide))).mono ?_; rintro e w3 ⟨rfl, hupz⟩; (first | rw [HC1.out] | rw [HC2.out]); replace hupA := hupA.trans hupz; replace ca : w3.cell? ⟨w.heap.size, 0, none⟩ = some (.bool false) := hupz.keep ca; replace cb : w3.cell? ⟨w.heap.size, 1, none⟩ = some (.slice A n c) := hupz.keep cb))
  all_goals
    go_wp2_with fail
    have cb2 : _ = some (Value.slice A n c) := ((Up.refl _).drew).keep cb
    have hupC := hupA.drew
    have L2 : ∀ w', Up w w' → Calls Tryd.prog 35 #[.slice A n c, .int .i64 2] w' (fun e w'' => e = .returned (.int .u64 (x2 : Nat)) ∧ w' = w'') := fun w' (h : Up w w') => limb_any A c (lim x.natAbs) w' (hl.up h) n 2 x2 Hn (HK.out ▸ H2) (by omega)
    have L1 : ∀ w', Up w w' → Calls Tryd.prog 35 #[.slice A n c, .int .i64 1] w' (fun e w'' => e = .returned (.int .u64 (x1 : Nat)) ∧ w' = w'') := fun w' (h : Up w w') => limb_any A c (lim x.natAbs) w' (hl.up h) n 1 x1 Hn (HK.out ▸ H1) (by omega)
    have L0 : ∀ w', Up w w' → Calls Tryd.prog 35 #[.slice A n c, .int .i64 0] w' (fun e w'' => e = .returned (.int .u64 (x0 : Nat)) ∧ w' = w'') := fun w' (h : Up w w') => limb_any A c (lim x.natAbs) w' (hl.up h) n 0 x0 Hn (HK.out ▸ H0) (by omega)
    go_region_held3 (fun w' => w'.cell? ⟨w.heap.size, 1, none⟩ = some (.slice A n c))
      (exact cb2)
      (first
        | (go_at_call 35; with_reducible refine (L2 _ hupC).mono ?_; rintro e w4 ⟨rfl, rfl⟩)
        | (go_at_call 35; with_reducible refine (L1 _ hupC).mono ?_; rintro e w4 ⟨rfl, rfl⟩)
        | (go_at_call 35; with_reducible refine (L0 _ hupC).mono ?_; rintro e w4 ⟨rfl, rfl⟩))
    rw [HJW.out]
    have ca2 : _ = some (Value.bool false) := ((Up.refl _).drew).keep ca
    go_wp2
    go_ret2
    exact ⟨by show Ending.returned (.tuple #[.int .i64 (wrap64 (k : Int)), .int .i64 0]) = _; rw [HW.out, HX.out, HV.out.1, HV.out.2], hupC⟩
/-- The reference's Small of a valid integer. -/
theorem rsmall_any (B : Nat) (v : Value) (x : Int) (w : World) (hv : IsInt B w v x) (hx : x.natAbs < top300) : Calls Tryd.prog 11 #[v] w (RetSmall w x) := by
  by_cases h1 : x < -9223372036854775808
  · exact rsmall_lt B v x w hv hx h1
  · by_cases h2 : 9223372036854775807 < x
    · exact rsmall_gt B v x w hv hx h2
    · by_cases h3 : x < 0
      · exact rsmall_neg B v x w hv hx (by omega) h3
      · exact rsmall_pos B v x w hv hx (by omega) (by omega)
end Go.Proofs.YtijcijdgpeolhaaDoor
