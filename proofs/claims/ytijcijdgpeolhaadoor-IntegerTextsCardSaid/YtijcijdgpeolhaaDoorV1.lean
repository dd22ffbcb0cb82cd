/- The program's Small. -/
import Derived.Test.YtijcijdgpeolhaaDoorE2
import Derived.Test.YtijcijdgpeolhaaDoorD6
import Derived.Deep.RegionHeld3
namespace Go.Proofs.YtijcijdgpeolhaaDoor
open Go.RowKit

/-- The value as an int64, and the error. -/
def smV (z : Int) : Int := if -9223372036854775808 ≤ z ∧ z ≤ 9223372036854775807 then z else 0
def smE (z : Int) : Int := if -9223372036854775808 ≤ z ∧ z ≤ 9223372036854775807 then 0 else 7
theorem sm_ok {z : Int} (h1 : -9223372036854775808 ≤ z) (h2 : z ≤ 9223372036854775807) : smV z = z ∧ smE z = 0 := by unfold smV smE; rw [if_pos ⟨h1, h2⟩, if_pos ⟨h1, h2⟩]; exact ⟨rfl, rfl⟩
theorem sm_no {z : Int} (h : ¬ (-9223372036854775808 ≤ z ∧ z ≤ 9223372036854775807)) : smV z = 0 ∧ smE z = 7 := by unfold smV smE; rw [if_neg h, if_neg h]; exact ⟨rfl, rfl⟩
theorem negw (k : Nat) (h : k ≤ 9223372036854775808) : wrap64 (IntKind.u64.wrap (-(k : Int))) = -(k : Int) := by
  rw [IntKind.wrap_u64]; unfold wrap64; omega
theorem posw (k : Nat) (h : k ≤ 9223372036854775807) : IntKind.i64.wrap (k : Int) = (k : Int) := by
  rw [IntKind.wrap_i64]; omega
/-- What Small returns. -/
def RetSmall (w : World) (z : Int) (e : Ending) (w' : World) : Prop := e = .returned (.tuple #[.int .i64 (smV z), .int .i64 (smE z)]) ∧ Up w w'
theorem top64 (w : World) : Calls Tryd.prog 32 #[.int .u64 18446744073709551615] w (RetLim w 18446744073709551615) := split_any 18446744073709551615 w (by omega)
theorem top64_len : (lim 18446744073709551615).length ≤ 10 := by
  rw [lim_len_le]
  have h2 : bas 3 = 1000000000000000000000000000 := rfl
  have h3 : bas 3 ≤ bas 10 := bas_mono (by omega)
  omega

set_option maxHeartbeats 2000000 in
theorem small_big_neg (B : Nat) (v : Value) (x : Int) (w : World) (hv : IsInt B w v x) (hx : x.natAbs < top300) (hs : x < 0) (hb : 18446744073709551615 < x.natAbs) : Calls Tryd.prog 10 #[v] w (RetSmall w x) := by
  obtain ⟨s, A, n, c, rfl, Hs, Hn, hl, hc, _⟩ := hv
  obtain rfl : s = true := by rw [Hs.out]; simp; omega
  have HV := hide (sm_no (z := x) (by omega))
  obtain ⟨z, hz⟩ : ∃ z, z = cmpN x.natAbs 18446744073709551615 := ⟨_, rfl⟩
  have HZ := hide hz
  have hzp : 0 < z := by rw [hz, cmpN_gt (by omega)]; decide
  obtain ⟨k, hk⟩ : ∃ k, k = x.natAbs := ⟨_, rfl⟩
  have hkb : 18446744073709551615 < k := by rw [hk]; exact hb
  have HK := hide hk
  clear hz hb hs hk
  obtain ⟨w0, hw0⟩ : ∃ w0, w0 = (w.alloc (.cells #[.bool true, .slice A n c] 25)) := ⟨_, rfl⟩
  have hb1 : Bk w0 (w.heap.size) 25 #[.bool true, .slice A n c] := by
    have := Bk.new w 25 #[.bool true, .slice A n c]
    rw [hw0]; simpa using this
  have hup0 : Up w w0 := by rw [hw0]; exact (Up.refl w).alloc _
  have hsz0 : w.heap.size + 1 ≤ w0.heap.size := by rw [hw0]; simp
  have Hw0 := hide hw0
  clear hw0
  have e1a := hb1.cell (i := 0) rfl
  have e1b := hb1.cell (i := 1) rfl
  have hn34 : n ≤ 34 := by rw [Hn.out]; exact len_of_top hx
  go_enter Tryd.func10, Tryd.ntmps10
  go_wp2_with fail
  rw [← Hw0.out]
  refine (validI_any 0 _ x w0 ⟨true, A, n, c, rfl, Hs, Hn, hl.up hup0, hc, fun _ _ => Nat.zero_le _⟩ hx).mono ?_
  rintro e w1 ⟨rfl, hup1⟩
  have g1 : w1.cell? ⟨w.heap.size, 0, none⟩ = some (.bool true) := hup1.keep e1a
  have g2 : w1.cell? ⟨w.heap.size, 1, none⟩ = some (.slice A n c) := hup1.keep e1b
  go_wp2_with fail
  have hupA : Up w1 w1.drew := (Up.refl w1).drew
  go_region_held3 (fun w' => w'.cell? ⟨w.heap.size, 1, none⟩ = some (.slice A n c))
    (exact hupA.keep g2)
    (first
      | (go_at_call 32; refine (top64 _).mono ?_; rintro e w2 ⟨A2, n2, c2, rfl, Hn2, hl2, hc2, hnew2, hup2⟩; replace hupA := hupA.trans hup2; have hn2 : n2 ≤ 10 := (by rw [Hn2.out]; exact top64_len); have H2 := hide hl2)
      | (go_at_call 31; refine (compare_any A A2 c c2 x.natAbs _ _ (hl.up ((hup0.trans hup1).trans hupA)) H2.out n n2 Hn Hn2 (by omega) (by omega)).mono ?_; rintro e w3 ⟨rfl, q, rfl⟩; rw [← HZ.out]; replace hupA := hupA.drewN q))
  have g3 : _ = some (Value.bool true) := hupA.keep g1
  have g4 : _ = some (Value.slice A n c) := hupA.keep g2
  have hupB := (hup0.trans hup1).trans hupA
  go_wp2
  go_ret2
  exact ⟨by rw [HV.out.1, HV.out.2]; rfl, hupB⟩

set_option maxHeartbeats 2000000 in
theorem small_big_pos (B : Nat) (v : Value) (x : Int) (w : World) (hv : IsInt B w v x) (hx : x.natAbs < top300) (hs : ¬ x < 0) (hb : 18446744073709551615 < x.natAbs) : Calls Tryd.prog 10 #[v] w (RetSmall w x) := by
  obtain ⟨s, A, n, c, rfl, Hs, Hn, hl, hc, _⟩ := hv
  obtain rfl : s = false := by rw [Hs.out]; simp; omega
  have HV := hide (sm_no (z := x) (by omega))
  obtain ⟨z, hz⟩ : ∃ z, z = cmpN x.natAbs 18446744073709551615 := ⟨_, rfl⟩
  have HZ := hide hz
  have hzp : 0 < z := by rw [hz, cmpN_gt (by omega)]; decide
  obtain ⟨k, hk⟩ : ∃ k, k = x.natAbs := ⟨_, rfl⟩
  have hkb : 18446744073709551615 < k := by rw [hk]; exact hb
  have HK := hide hk
  clear hz hb hs hk
  obtain ⟨w0, hw0⟩ : ∃ w0, w0 = (w.alloc (.cells #[.bool false, .slice A n c] 25)) := ⟨_, rfl⟩
  have hb1 : Bk w0 (w.heap.size) 25 #[.bool false, .slice A n c] := by
    have := Bk.new w 25 #[.bool false, .slice A n c]
    rw [hw0]; simpa using this
  have hup0 : Up w w0 := by rw [hw0]; exact (Up.refl w).alloc _
  have hsz0 : w.heap.size + 1 ≤ w0.heap.size := by rw [hw0]; simp
  have Hw0 := hide hw0
  clear hw0
  have e1a := hb1.cell (i := 0) rfl
  have e1b := hb1.cell (i := 1) rfl
  have hn34 : n ≤ 34 := by rw [Hn.out]; exact len_of_top hx
  go_enter Tryd.func10, Tryd.ntmps10
  go_wp2_with fail
  rw [← Hw0.out]
  refine (validI_any 0 _ x w0 ⟨false, A, n, c, rfl, Hs, Hn, hl.up hup0, hc, fun _ _ => Nat.zero_le _⟩ hx).mono ?_
  rintro e w1 ⟨rfl, hup1⟩
  have g1 : w1.cell? ⟨w.heap.size, 0, none⟩ = some (.bool false) := hup1.keep e1a
  have g2 : w1.cell? ⟨w.heap.size, 1, none⟩ = some (.slice A n c) := hup1.keep e1b
  go_wp2_with fail
  have hupA : Up w1 w1.drew := (Up.refl w1).drew
  go_region_held3 (fun w' => w'.cell? ⟨w.heap.size, 1, none⟩ = some (.slice A n c))
    (exact hupA.keep g2)
    (first
      | (go_at_call 32; refine (top64 _).mono ?_; rintro e w2 ⟨A2, n2, c2, rfl, Hn2, hl2, hc2, hnew2, hup2⟩; replace hupA := hupA.trans hup2; have hn2 : n2 ≤ 10 := (by rw [Hn2.out]; exact top64_len); have H2 := hide hl2)
      | (go_at_call 31; refine (compare_any A A2 c c2 x.natAbs _ _ (hl.up ((hup0.trans hup1).trans hupA)) H2.out n n2 Hn Hn2 (by omega) (by omega)).mono ?_; rintro e w3 ⟨rfl, q, rfl⟩; rw [← HZ.out]; replace hupA := hupA.drewN q))
  have g3 : _ = some (Value.bool false) := hupA.keep g1
  have g4 : _ = some (Value.slice A n c) := hupA.keep g2
  have hupB := (hup0.trans hup1).trans hupA
  go_wp2
  go_ret2
  exact ⟨by rw [HV.out.1, HV.out.2]; rfl, hupB⟩

set_option maxHeartbeats 2000000 in
theorem small_neg (B : Nat) (v : Value) (x : Int) (w : World) (hv : IsInt B w v x) (hx : x.natAbs < top300) (hs : x < 0) (hb : x.natAbs ≤ 9223372036854775808) : Calls Tryd.prog 10 #[v] w (RetSmall w x) := by
  obtain ⟨s, A, n, c, rfl, Hs, Hn, hl, hc, _⟩ := hv
  obtain rfl : s = true := by rw [Hs.out]; simp; omega
  have HV := hide (sm_ok (z := x) (by omega) (by omega))
  obtain ⟨z, hz⟩ : ∃ z, z = cmpN x.natAbs 18446744073709551615 := ⟨_, rfl⟩
  have HZ := hide hz
  have hzp : ¬ 0 < z := by rw [hz]; unfold cmpN; split <;> (try split) <;> omega
  obtain ⟨k, hk⟩ : ∃ k, k = x.natAbs := ⟨_, rfl⟩
  have hkb : k ≤ 9223372036854775808 := by rw [hk]; exact hb
  have HW := hide (negw k hkb)
  have HX : Hid (-(k : Int) = x) := by show _ = _; omega
  have HK := hide hk
  clear hz hb hs hk
  obtain ⟨w0, hw0⟩ : ∃ w0, w0 = (w.alloc (.cells #[.bool true, .slice A n c] 25)) := ⟨_, rfl⟩
  have hb1 : Bk w0 (w.heap.size) 25 #[.bool true, .slice A n c] := by
    have := Bk.new w 25 #[.bool true, .slice A n c]
    rw [hw0]; simpa using this
  have hup0 : Up w w0 := by rw [hw0]; exact (Up.refl w).alloc _
  have hsz0 : w.heap.size + 1 ≤ w0.heap.size := by rw [hw0]; simp
  have Hw0 := hide hw0
  clear hw0
  have e1a := hb1.cell (i := 0) rfl
  have e1b := hb1.cell (i := 1) rfl
  have hn34 : n ≤ 34 := by rw [Hn.out]; exact len_of_top hx
  go_enter Tryd.func10, Tryd.ntmps10
  go_wp2_with fail
  rw [← Hw0.out]
  refine (validI_any 0 _ x w0 ⟨true, A, n, c, rfl, Hs, Hn, hl.up hup0, hc, fun _ _ => Nat.zero_le _⟩ hx).mono ?_
  rintro e w1 ⟨rfl, hup1⟩
  have g1 : w1.cell? ⟨w.heap.size, 0, none⟩ = some (.bool true) := hup1.keep e1a
  have g2 : w1.cell? ⟨w.heap.size, 1, none⟩ = some (.slice A n c) := hup1.keep e1b
  go_wp2_with fail
  have hupA : Up w1 w1.drew := (Up.refl w1).drew
  go_region_held3 (fun w' => w'.cell? ⟨w.heap.size, 1, none⟩ = some (.slice A n c))
    (exact hupA.keep g2)
    (first
      | (go_at_call 32; refine (top64 _).mono ?_; rintro e w2 ⟨A2, n2, c2, rfl, Hn2, hl2, hc2, hnew2, hup2⟩; replace hupA := hupA.trans hup2; have hn2 : n2 ≤ 10 := (by rw [Hn2.out]; exact top64_len); have H2 := hide hl2)
      | (go_at_call 31; refine (compare_any A A2 c c2 x.natAbs _ _ (hl.up ((hup0.trans hup1).trans hupA)) H2.out n n2 Hn Hn2 (by omega) (by omega)).mono ?_; rintro e w3 ⟨rfl, q, rfl⟩; rw [← HZ.out]; replace hupA := hupA.drewN q))
  have g3 : _ = some (Value.bool true) := hupA.keep g1
  have g4 : _ = some (Value.slice A n c) := hupA.keep g2
  have hupB := (hup0.trans hup1).trans hupA
  go_wp2_with fail
  refine (join_any A c n x.natAbs _ (hl.up hupB) Hn (by rw [← HK.out]; omega)).mono ?_
  rintro e w4 ⟨rfl, hup4⟩
  have g5 : w4.cell? ⟨w.heap.size, 0, none⟩ = some (.bool true) := hup4.keep g3
  rw [← HK.out]
  go_wp2
  go_ret2
  exact ⟨by show Ending.returned (.tuple #[.int .i64 (wrap64 (IntKind.u64.wrap (-(k : Int)))), .int .i64 0]) = _; rw [HW.out, HX.out, HV.out.1, HV.out.2], hupB.trans hup4⟩

set_option maxHeartbeats 2000000 in
theorem small_neg_far (B : Nat) (v : Value) (x : Int) (w : World) (hv : IsInt B w v x) (hx : x.natAbs < top300) (hs : x < 0) (hb : 9223372036854775808 < x.natAbs ∧ x.natAbs ≤ 18446744073709551615) : Calls Tryd.prog 10 #[v] w (RetSmall w x) := by
  obtain ⟨s, A, n, c, rfl, Hs, Hn, hl, hc, _⟩ := hv
  obtain rfl : s = true := by rw [Hs.out]; simp; omega
  have HV := hide (sm_no (z := x) (by omega))
  obtain ⟨z, hz⟩ : ∃ z, z = cmpN x.natAbs 18446744073709551615 := ⟨_, rfl⟩
  have HZ := hide hz
  have hzp : ¬ 0 < z := by rw [hz]; unfold cmpN; split <;> (try split) <;> omega
  obtain ⟨k, hk⟩ : ∃ k, k = x.natAbs := ⟨_, rfl⟩
  have hkb : 9223372036854775808 < k ∧ k ≤ 18446744073709551615 := by rw [hk]; exact hb
  obtain ⟨hk1, hk2⟩ := hkb
  have HK := hide hk
  clear hz hb hs hk
  obtain ⟨w0, hw0⟩ : ∃ w0, w0 = (w.alloc (.cells #[.bool true, .slice A n c] 25)) := ⟨_, rfl⟩
  have hb1 : Bk w0 (w.heap.size) 25 #[.bool true, .slice A n c] := by
    have := Bk.new w 25 #[.bool true, .slice A n c]
    rw [hw0]; simpa using this
  have hup0 : Up w w0 := by rw [hw0]; exact (Up.refl w).alloc _
  have hsz0 : w.heap.size + 1 ≤ w0.heap.size := by rw [hw0]; simp
  have Hw0 := hide hw0
  clear hw0
  have e1a := hb1.cell (i := 0) rfl
  have e1b := hb1.cell (i := 1) rfl
  have hn34 : n ≤ 34 := by rw [Hn.out]; exact len_of_top hx
  go_enter Tryd.func10, Tryd.ntmps10
  go_wp2_with fail
  rw [← Hw0.out]
  refine (validI_any 0 _ x w0 ⟨true, A, n, c, rfl, Hs, Hn, hl.up hup0, hc, fun _ _ => Nat.zero_le _⟩ hx).mono ?_
  rintro e w1 ⟨rfl, hup1⟩
  have g1 : w1.cell? ⟨w.heap.size, 0, none⟩ = some (.bool true) := hup1.keep e1a
  have g2 : w1.cell? ⟨w.heap.size, 1, none⟩ = some (.slice A n c) := hup1.keep e1b
  go_wp2_with fail
  have hupA : Up w1 w1.drew := (Up.refl w1).drew
  go_region_held3 (fun w' => w'.cell? ⟨w.heap.size, 1, none⟩ = some (.slice A n c))
    (exact hupA.keep g2)
    (first
      | (go_at_call 32; refine (top64 _).mono ?_; rintro e w2 ⟨A2, n2, c2, rfl, Hn2, hl2, hc2, hnew2, hup2⟩; replace hupA := hupA.trans hup2; have hn2 : n2 ≤ 10 := (by rw [Hn2.out]; exact top64_len); have H2 := hide hl2)
      | (go_at_call 31; refine (compare_any A A2 c c2 x.natAbs _ _ (hl.up ((hup0.trans hup1).trans hupA)) H2.out n n2 Hn Hn2 (by omega) (by omega)).mono ?_; rintro e w3 ⟨rfl, q, rfl⟩; rw [← HZ.out]; replace hupA := hupA.drewN q))
  have g3 : _ = some (Value.bool true) := hupA.keep g1
  have g4 : _ = some (Value.slice A n c) := hupA.keep g2
  have hupB := (hup0.trans hup1).trans hupA
  go_wp2_with fail
  refine (join_any A c n x.natAbs _ (hl.up hupB) Hn (by rw [← HK.out]; omega)).mono ?_
  rintro e w4 ⟨rfl, hup4⟩
  have g5 : w4.cell? ⟨w.heap.size, 0, none⟩ = some (.bool true) := hup4.keep g3
  rw [← HK.out]
  go_wp2
  go_ret2
  exact ⟨by rw [HV.out.1, HV.out.2]; rfl, hupB.trans hup4⟩

set_option maxHeartbeats 2000000 in
theorem small_pos (B : Nat) (v : Value) (x : Int) (w : World) (hv : IsInt B w v x) (hx : x.natAbs < top300) (hs : ¬ x < 0) (hb : x.natAbs ≤ 9223372036854775807) : Calls Tryd.prog 10 #[v] w (RetSmall w x) := by
  obtain ⟨s, A, n, c, rfl, Hs, Hn, hl, hc, _⟩ := hv
  obtain rfl : s = false := by rw [Hs.out]; simp; omega
  have HV := hide (sm_ok (z := x) (by omega) (by omega))
  obtain ⟨z, hz⟩ : ∃ z, z = cmpN x.natAbs 18446744073709551615 := ⟨_, rfl⟩
  have HZ := hide hz
  have hzp : ¬ 0 < z := by rw [hz]; unfold cmpN; split <;> (try split) <;> omega
  obtain ⟨k, hk⟩ : ∃ k, k = x.natAbs := ⟨_, rfl⟩
  have hkb : k ≤ 9223372036854775807 := by rw [hk]; exact hb
  have HW := hide (posw k hkb)
  have HX : Hid ((k : Int) = x) := by show _ = _; omega
  have HK := hide hk
  clear hz hb hs hk
  obtain ⟨w0, hw0⟩ : ∃ w0, w0 = (w.alloc (.cells #[.bool false, .slice A n c] 25)) := ⟨_, rfl⟩
  have hb1 : Bk w0 (w.heap.size) 25 #[.bool false, .slice A n c] := by
    have := Bk.new w 25 #[.bool false, .slice A n c]
    rw [hw0]; simpa using this
  have hup0 : Up w w0 := by rw [hw0]; exact (Up.refl w).alloc _
  have hsz0 : w.heap.size + 1 ≤ w0.heap.size := by rw [hw0]; simp
  have Hw0 := hide hw0
  clear hw0
  have e1a := hb1.cell (i := 0) rfl
  have e1b := hb1.cell (i := 1) rfl
  have hn34 : n ≤ 34 := by rw [Hn.out]; exact len_of_top hx
  go_enter Tryd.func10, Tryd.ntmps10
  go_wp2_with fail
  rw [← Hw0.out]
  refine (validI_any 0 _ x w0 ⟨false, A, n, c, rfl, Hs, Hn, hl.up hup0, hc, fun _ _ => Nat.zero_le _⟩ hx).mono ?_
  rintro e w1 ⟨rfl, hup1⟩
  have g1 : w1.cell? ⟨w.heap.size, 0, none⟩ = some (.bool false) := hup1.keep e1a
  have g2 : w1.cell? ⟨w.heap.size, 1, none⟩ = some (.slice A n c) := hup1.keep e1b
  go_wp2_with fail
  have hupA : Up w1 w1.drew := (Up.refl w1).drew
  go_region_held3 (fun w' => w'.cell? ⟨w.heap.size, 1, none⟩ = some (.slice A n c))
    (exact hupA.keep g2)
    (first
      | (go_at_call 32; refine (top64 _).mono ?_; rintro e w2 ⟨A2, n2, c2, rfl, Hn2, hl2, hc2, hnew2, hup2⟩; replace hupA := hupA.trans hup2; have hn2 : n2 ≤ 10 := (by rw [Hn2.out]; exact top64_len); have H2 := hide hl2)
      | (go_at_call 31; refine (compare_any A A2 c c2 x.natAbs _ _ (hl.up ((hup0.trans hup1).trans hupA)) H2.out n n2 Hn Hn2 (by omega) (by omega)).mono ?_; rintro e w3 ⟨rfl, q, rfl⟩; rw [← HZ.out]; replace hupA := hupA.drewN q))
  have g3 : _ = some (Value.bool false) := hupA.keep g1
  have g4 : _ = some (Value.slice A n c) := hupA.keep g2
  have hupB := (hup0.trans hup1).trans hupA
  go_wp2_with fail
  refine (join_any A c n x.natAbs _ (hl.up hupB) Hn (by rw [← HK.out]; omega)).mono ?_
  rintro e w4 ⟨rfl, hup4⟩
  have g5 : w4.cell? ⟨w.heap.size, 0, none⟩ = some (.bool false) := hup4.keep g3
  rw [← HK.out]
  go_wp2
  go_ret2
  exact ⟨by rw [HV.out.1, HV.out.2, ← HX.out]; rfl, hupB.trans hup4⟩

set_option maxHeartbeats 2000000 in
theorem small_pos_far (B : Nat) (v : Value) (x : Int) (w : World) (hv : IsInt B w v x) (hx : x.natAbs < top300) (hs : ¬ x < 0) (hb : 9223372036854775807 < x.natAbs ∧ x.natAbs ≤ 18446744073709551615) : Calls Tryd.prog 10 #[v] w (RetSmall w x) := by
  obtain ⟨s, A, n, c, rfl, Hs, Hn, hl, hc, _⟩ := hv
  obtain rfl : s = false := by rw [Hs.out]; simp; omega
  have HV := hide (sm_no (z := x) (by omega))
  obtain ⟨z, hz⟩ : ∃ z, z = cmpN x.natAbs 18446744073709551615 := ⟨_, rfl⟩
  have HZ := hide hz
  have hzp : ¬ 0 < z := by rw [hz]; unfold cmpN; split <;> (try split) <;> omega
  obtain ⟨k, hk⟩ : ∃ k, k = x.natAbs := ⟨_, rfl⟩
  have hkb : 9223372036854775807 < k ∧ k ≤ 18446744073709551615 := by rw [hk]; exact hb
  obtain ⟨hk1, hk2⟩ := hkb
  have HK := hide hk
  clear hz hb hs hk
  obtain ⟨w0, hw0⟩ : ∃ w0, w0 = (w.alloc (.cells #[.bool false, .slice A n c] 25)) := ⟨_, rfl⟩
  have hb1 : Bk w0 (w.heap.size) 25 #[.bool false, .slice A n c] := by
    have := Bk.new w 25 #[.bool false, .slice A n c]
    rw [hw0]; simpa using this
  have hup0 : Up w w0 := by rw [hw0]; exact (Up.refl w).alloc _
  have hsz0 : w.heap.size + 1 ≤ w0.heap.size := by rw [hw0]; simp
  have Hw0 := hide hw0
  clear hw0
  have e1a := hb1.cell (i := 0) rfl
  have e1b := hb1.cell (i := 1) rfl
  have hn34 : n ≤ 34 := by rw [Hn.out]; exact len_of_top hx
  go_enter Tryd.func10, Tryd.ntmps10
  go_wp2_with fail
  rw [← Hw0.out]
  refine (validI_any 0 _ x w0 ⟨false, A, n, c, rfl, Hs, Hn, hl.up hup0, hc, fun _ _ => Nat.zero_le _⟩ hx).mono ?_
  rintro e w1 ⟨rfl, hup1⟩
  have g1 : w1.cell? ⟨w.heap.size, 0, none⟩ = some (.bool false) := hup1.keep e1a
  have g2 : w1.cell? ⟨w.heap.size, 1, none⟩ = some (.slice A n c) := hup1.keep e1b
  go_wp2_with fail
  have hupA : Up w1 w1.drew := (Up.refl w1).drew
  go_region_held3 (fun w' => w'.cell? ⟨w.heap.size, 1, none⟩ = some (.slice A n c))
    (exact hupA.keep g2)
    (first
      | (go_at_call 32; refine (top64 _).mono ?_; rintro e w2 ⟨A2, n2, c2, rfl, Hn2, hl2, hc2, hnew2, hup2⟩; replace hupA := hupA.trans hup2; have hn2 : n2 ≤ 10 := (by rw [Hn2.out]; exact top64_len); have H2 := hide hl2)
      | (go_at_call 31; refine (compare_any A A2 c c2 x.natAbs _ _ (hl.up ((hup0.trans hup1).trans hupA)) H2.out n n2 Hn Hn2 (by omega) (by omega)).mono ?_; rintro e w3 ⟨rfl, q, rfl⟩; rw [← HZ.out]; replace hupA := hupA.drewN q))
  have g3 : _ = some (Value.bool false) := hupA.keep g1
  have g4 : _ = some (Value.slice A n c) := hupA.keep g2
  have hupB := (hup0.trans hup1).trans hupA
  go_wp2_with fail
  refine (join_any A c n x.natAbs _ (hl.up hupB) Hn (by rw [← HK.out]; omega)).mono ?_
  rintro e w4 ⟨rfl, hup4⟩
  have g5 : w4.cell? ⟨w.heap.size, 0, none⟩ = some (.bool false) := hup4.keep g3
  rw [← HK.out]
  go_wp2
  go_ret2
  exact ⟨by rw [HV.out.1, HV.out.2]; rfl, hupB.trans hup4⟩

theorem small_any (B : Nat) (v : Value) (x : Int) (w : World) (hv : IsInt B w v x) (hx : x.natAbs < top300) : Calls Tryd.prog 10 #[v] w (RetSmall w x) := by
  by_cases hb : 18446744073709551615 < x.natAbs
  · by_cases hs : x < 0
    · exact small_big_neg B v x w hv hx hs hb
    · exact small_big_pos B v x w hv hx hs hb
  · by_cases hs : x < 0
    · by_cases h1 : x.natAbs ≤ 9223372036854775808
      · exact small_neg B v x w hv hx hs h1
      · exact small_neg_far B v x w hv hx hs (by omega)
    · by_cases h1 : x.natAbs ≤ 9223372036854775807
      · exact small_pos B v x w hv hx hs h1
      · exact small_pos_far B v x w hv hx hs (by omega)
end Go.Proofs.YtijcijdgpeolhaaDoor
