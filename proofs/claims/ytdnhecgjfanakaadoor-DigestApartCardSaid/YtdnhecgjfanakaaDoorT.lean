/- What the laws' awake returns; the laws on the check sum. -/
import Derived.Test.YtdnhecgjfanakaaDoorS
namespace Go.Proofs.YtdnhecgjfanakaaDoor
open Go.RowKit

theorem e_hex : bs (hexL (by_ ⟨#[]⟩)) = ⟨#[101, 51, 98, 48, 99, 52, 52, 50, 57, 56, 102, 99, 49, 99, 49, 52, 57, 97, 102, 98, 102, 52, 99, 56, 57, 57, 54, 102, 98, 57, 50, 52, 50, 55, 97, 101, 52, 49, 101, 52, 54, 52, 57, 98, 57, 51, 52, 99, 97, 52, 57, 53, 57, 57, 49, 98, 55, 56, 53, 50, 98, 56, 53, 53]⟩ := by rw [show by_ ⟨#[]⟩ = [] from rfl, hex_empty]; rfl
theorem e_short : bs ((hexL (by_ ⟨#[97, 98, 99]⟩)).take 16) = ⟨#[98, 97, 55, 56, 49, 54, 98, 102, 56, 102, 48, 49, 99, 102, 101, 97]⟩ := by rw [show by_ ⟨#[97, 98, 99]⟩ = [97, 98, 99] from rfl, hex_abc]; rfl
theorem e_crc : crc (by_ ⟨#[49, 50, 51, 52, 53, 54, 55, 56, 57]⟩) = 3421780262 := by rw [show by_ ⟨#[49, 50, 51, 52, 53, 54, 55, 56, 57]⟩ = [49, 50, 51, 52, 53, 54, 55, 56, 57] from rfl, crc_digits]
set_option maxRecDepth 1000000 in
set_option maxHeartbeats 4000000 in
theorem awake_any (w : World) (hT : Tabs w) : Calls Tryd.prog 7 #[] w fun e w' => e = .returned (.bool true) ∧ Up w w' := by
  have HT := hide hT
  clear hT
  go_enter Tryd.func7, Tryd.ntmps7
  go_wp2_with fail
  refine (hex_any ⟨#[]⟩ _ HT.out (by decide)).mono ?_
  rw [e_hex]
  rintro e w1 ⟨rfl, hu1⟩
  go_wp2_with fail
  refine (short_any ⟨#[97, 98, 99]⟩ _ (HT.out.up hu1) (by decide)).mono ?_
  rw [e_short]
  rintro e w2 ⟨rfl, hu2⟩
  go_wp2_with fail
  refine (crc_any ⟨#[49, 50, 51, 52, 53, 54, 55, 56, 57]⟩ _ (by decide) ((HT.out.up hu1).up hu2)).mono ?_
  rw [e_crc]
  rintro e w3 ⟨rfl, rfl⟩
  go_wp2
  go_ret
  exact ⟨rfl, hu1.trans hu2⟩
set_option maxRecDepth 1000000 in
set_option maxHeartbeats 4000000 in
theorem crcW (s : ByteArray) (w : World) (hT : Tabs w) (hs : s.size ≤ 9223372036854775807) : Calls Tryd.prog 4 #[.string s] w fun e w' => e = .returned (.bool true) ∧ Up w w' := by
  have HT := hide hT
  clear hT
  by_cases h : s.size ≤ 4000
  · have hle : decide ((4000 : Int) < s.size) = false := decide_eq_false (by omega)
    go_enter Tryd.func4, Tryd.ntmps4
    go_wp2_with fail
    refine (awake_any _ HT.out).mono ?_
    rintro e w1 ⟨rfl, hu1⟩
    go_wp2_with fail
    refine (crc_any s _ (by omega) (HT.out.up hu1)).mono ?_
    rintro e w2 ⟨rfl, rfl⟩
    go_wp2_with fail
    refine (rcrc_any s _ (by omega)).mono ?_
    rintro e w2 ⟨rfl, rfl⟩
    go_wp2
    go_ret
    exact ⟨rfl, hu1⟩
  · have hle : decide ((4000 : Int) < s.size) = true := decide_eq_true (by omega)
    go_enter Tryd.func4, Tryd.ntmps4
    go_wp2_with fail
    refine (awake_any _ HT.out).mono ?_
    rintro e w1 ⟨rfl, hu1⟩
    go_wp2_with fail
    refine (awake_any _ (HT.out.up hu1)).mono ?_
    rintro e w2 ⟨rfl, hu2⟩
    go_wp2
    go_ret
    exact ⟨rfl, hu1.trans hu2⟩
theorem crc_xor_i {x y z v : Nat} (hx : x < 4294967296) (hy : y < 4294967296) (hz : z < 4294967296) (hv : v = x ^^^ y ^^^ z) : bits .xor .u32 (bits .xor .u32 (x : Int) (y : Int)) (z : Int) = (v : Int) := by
  rw [xor_n hx hy, xor_n (Nat.xor_lt_two_pow (n := 32) hx hy) hz, hv]
theorem by_pre (s : ByteArray) (n : Nat) : by_ (s.extract 0 n) = (by_ s).take n := by rw [by_extract]; simp
theorem xl_len (l m : List Nat) (h : l.length = m.length) : (xl l m).length = l.length := by unfold xl; rw [List.length_zipWith]; omega
theorem slice_pre (s : ByteArray) (n : Nat) (h : n ≤ s.size) (W : World) : (Instr.slice 9 (.string s) none (some (.int .i64 (n : Int))) none).run Tryd.prog W = .ok (.string (s.extract 0 n)) W := by
  rw [run_slice_string_h W _ _ Tryd.underlying9 .i64 _ (by omega) (by omega)]; simp only [Int.toNat_natCast]
set_option maxRecDepth 1000000 in
set_option maxHeartbeats 4000000 in
theorem xorW (s t u : ByteArray) (w : World) (hT : Tabs w) (hs : s.size ≤ 9223372036854775807) (ht : t.size ≤ 9223372036854775807) (hu : u.size ≤ 9223372036854775807) : Calls Tryd.prog 6 #[.string s, .string t, .string u] w fun e w' => e = .returned (.bool true) ∧ Up w w' := by
  have HT := hide hT
  clear hT
  by_cases h : s.size ≤ 2000
  · have hle : decide ((2000 : Int) < s.size) = false := decide_eq_false (by omega)
    by_cases h1 : t.size < s.size
    · by_cases h2 : u.size < t.size
      · have h2' : (u.size : Int) < t.size := by omega
        obtain ⟨xs, Hs⟩ : ∃ x, Hid (x = s.extract 0 u.size) := ⟨_, rfl⟩
        obtain ⟨xt, Ht⟩ : ∃ x, Hid (x = t.extract 0 u.size) := ⟨_, rfl⟩
        obtain ⟨xu, Hu⟩ : ∃ x, Hid (x = u.extract 0 u.size) := ⟨_, rfl⟩
        have cuts : ∀ W : World, (Instr.slice 9 (.string s) none (some (.int .i64 (u.size : Int))) none).run Tryd.prog W = .ok (.string xs) W := fun W => by rw [Hs.out]; exact slice_pre s u.size (by omega) W
        have cutt : ∀ W : World, (Instr.slice 9 (.string t) none (some (.int .i64 (u.size : Int))) none).run Tryd.prog W = .ok (.string xt) W := fun W => by rw [Ht.out]; exact slice_pre t u.size (by omega) W
        have cutu : ∀ W : World, (Instr.slice 9 (.string u) none (some (.int .i64 (u.size : Int))) none).run Tryd.prog W = .ok (.string xu) W := fun W => by rw [Hu.out]; exact slice_pre u u.size (by omega) W
        have zs : xs.size = u.size := by rw [Hs.out, ByteArray.size_extract]; omega
        have zt : xt.size = u.size := by rw [Ht.out, ByteArray.size_extract]; omega
        have zu : xu.size = u.size := by rw [Hu.out, ByteArray.size_extract]; omega
        have Zs := hide zs
        have Zt := hide zt
        have Zu := hide zu
        clear zs zt zu
        go_enter Tryd.func6, Tryd.ntmps6
        go_wp2_with fail
        refine (awake_any _ HT.out).mono ?_
        rintro e w1 ⟨rfl, hu1⟩
        go_wp2
        go_quiet (fail)
        go_wp2_with fail
        have hT1 := hide ((HT.out.up hu1).up ((Up.refl _).drewN nq))
        refine (rxor_any xs xt _ (by rw [Zs.out]; omega) (by rw [Zs.out, Zt.out])).mono ?_
        rintro e w2 ⟨rfl, hu2⟩
        obtain ⟨y, Hy⟩ : ∃ y, Hid (y = bs (xl (by_ xs) (by_ xt))) := ⟨_, rfl⟩
        rw [← Hy.out]
        have Hyb : Hid (by_ y = xl (by_ xs) (by_ xt)) := by show _ = _; rw [Hy.out]; exact by_bs _ (xl_lt (by_lt xs) (by_lt xt))
        have Zy : Hid (y.size = xu.size) := by show _ = _; rw [← by_len, Hyb.out, xl_len _ _ (by rw [by_len, by_len, Zs.out, Zt.out]), by_len, Zs.out, Zu.out]
        go_wp2_with fail
        refine (rxor_any y xu _ (by rw [Zy.out, Zu.out]; omega) Zy.out).mono ?_
        rintro e w3 ⟨rfl, hu3⟩
        obtain ⟨v, Hv⟩ : ∃ v, Hid (v = bs (xl (by_ y) (by_ xu))) := ⟨_, rfl⟩
        rw [← Hv.out]
        have Hvb : Hid (by_ v = xl (by_ y) (by_ xu)) := by show _ = _; rw [Hv.out]; exact by_bs _ (xl_lt (by_lt y) (by_lt xu))
        have hT3 := hide ((hT1.out.up hu2).up hu3)
        go_wp2_with fail
        refine (crc_any v _ (by rw [← by_len, Hvb.out, xl_len _ _ (by rw [by_len, by_len, Zy.out]), by_len, Zy.out, Zu.out]; omega) hT3.out).mono ?_
        rintro e w4 ⟨rfl, rfl⟩
        go_wp2_with fail
        refine (crc_any xs _ (by rw [Zs.out]; omega) hT3.out).mono ?_
        rintro e w4 ⟨rfl, rfl⟩
        go_wp2_with fail
        refine (crc_any xt _ (by rw [Zt.out]; omega) hT3.out).mono ?_
        rintro e w4 ⟨rfl, rfl⟩
        go_wp2_with fail
        refine (crc_any xu _ (by rw [Zu.out]; omega) hT3.out).mono ?_
        rintro e w4 ⟨rfl, rfl⟩
        have hx := crc_xor_i (crc_lt (by_lt xs)) (crc_lt (by_lt xt)) (crc_lt (by_lt xu)) (v := crc (by_ v)) (by rw [Hvb.out, Hyb.out]; exact crc_xor3 _ _ _ (by rw [by_len, by_len, Zs.out, Zt.out]) (by rw [by_len, by_len, Zt.out, Zu.out]))
        go_wp2
        go_ret
        exact ⟨by first | rfl | (rw [hx]; simp), ((hu1.drewN nq).trans hu2).trans hu3⟩
      · have h2' : (t.size : Int) ≤ u.size := by omega
        obtain ⟨xs, Hs⟩ : ∃ x, Hid (x = s.extract 0 t.size) := ⟨_, rfl⟩
        obtain ⟨xt, Ht⟩ : ∃ x, Hid (x = t.extract 0 t.size) := ⟨_, rfl⟩
        obtain ⟨xu, Hu⟩ : ∃ x, Hid (x = u.extract 0 t.size) := ⟨_, rfl⟩
        have cuts : ∀ W : World, (Instr.slice 9 (.string s) none (some (.int .i64 (t.size : Int))) none).run Tryd.prog W = .ok (.string xs) W := fun W => by rw [Hs.out]; exact slice_pre s t.size (by omega) W
        have cutt : ∀ W : World, (Instr.slice 9 (.string t) none (some (.int .i64 (t.size : Int))) none).run Tryd.prog W = .ok (.string xt) W := fun W => by rw [Ht.out]; exact slice_pre t t.size (by omega) W
        have cutu : ∀ W : World, (Instr.slice 9 (.string u) none (some (.int .i64 (t.size : Int))) none).run Tryd.prog W = .ok (.string xu) W := fun W => by rw [Hu.out]; exact slice_pre u t.size (by omega) W
        have zs : xs.size = t.size := by rw [Hs.out, ByteArray.size_extract]; omega
        have zt : xt.size = t.size := by rw [Ht.out, ByteArray.size_extract]; omega
        have zu : xu.size = t.size := by rw [Hu.out, ByteArray.size_extract]; omega
        have Zs := hide zs
        have Zt := hide zt
        have Zu := hide zu
        clear zs zt zu
        go_enter Tryd.func6, Tryd.ntmps6
        go_wp2_with fail
        refine (awake_any _ HT.out).mono ?_
        rintro e w1 ⟨rfl, hu1⟩
        go_wp2
        go_quiet (fail)
        go_wp2_with fail
        have hT1 := hide ((HT.out.up hu1).up ((Up.refl _).drewN nq))
        refine (rxor_any xs xt _ (by rw [Zs.out]; omega) (by rw [Zs.out, Zt.out])).mono ?_
        rintro e w2 ⟨rfl, hu2⟩
        obtain ⟨y, Hy⟩ : ∃ y, Hid (y = bs (xl (by_ xs) (by_ xt))) := ⟨_, rfl⟩
        rw [← Hy.out]
        have Hyb : Hid (by_ y = xl (by_ xs) (by_ xt)) := by show _ = _; rw [Hy.out]; exact by_bs _ (xl_lt (by_lt xs) (by_lt xt))
        have Zy : Hid (y.size = xu.size) := by show _ = _; rw [← by_len, Hyb.out, xl_len _ _ (by rw [by_len, by_len, Zs.out, Zt.out]), by_len, Zs.out, Zu.out]
        go_wp2_with fail
        refine (rxor_any y xu _ (by rw [Zy.out, Zu.out]; omega) Zy.out).mono ?_
        rintro e w3 ⟨rfl, hu3⟩
        obtain ⟨v, Hv⟩ : ∃ v, Hid (v = bs (xl (by_ y) (by_ xu))) := ⟨_, rfl⟩
        rw [← Hv.out]
        have Hvb : Hid (by_ v = xl (by_ y) (by_ xu)) := by show _ = _; rw [Hv.out]; exact by_bs _ (xl_lt (by_lt y) (by_lt xu))
        have hT3 := hide ((hT1.out.up hu2).up hu3)
        go_wp2_with fail
        refine (crc_any v _ (by rw [← by_len, Hvb.out, xl_len _ _ (by rw [by_len, by_len, Zy.out]), by_len, Zy.out, Zu.out]; omega) hT3.out).mono ?_
        rintro e w4 ⟨rfl, rfl⟩
        go_wp2_with fail
        refine (crc_any xs _ (by rw [Zs.out]; omega) hT3.out).mono ?_
        rintro e w4 ⟨rfl, rfl⟩
        go_wp2_with fail
        refine (crc_any xt _ (by rw [Zt.out]; omega) hT3.out).mono ?_
        rintro e w4 ⟨rfl, rfl⟩
        go_wp2_with fail
        refine (crc_any xu _ (by rw [Zu.out]; omega) hT3.out).mono ?_
        rintro e w4 ⟨rfl, rfl⟩
        have hx := crc_xor_i (crc_lt (by_lt xs)) (crc_lt (by_lt xt)) (crc_lt (by_lt xu)) (v := crc (by_ v)) (by rw [Hvb.out, Hyb.out]; exact crc_xor3 _ _ _ (by rw [by_len, by_len, Zs.out, Zt.out]) (by rw [by_len, by_len, Zt.out, Zu.out]))
        go_wp2
        go_ret
        exact ⟨by first | rfl | (rw [hx]; simp), ((hu1.drewN nq).trans hu2).trans hu3⟩
    · by_cases h2 : u.size < s.size
      · have h2' : (u.size : Int) < s.size := by omega
        obtain ⟨xs, Hs⟩ : ∃ x, Hid (x = s.extract 0 u.size) := ⟨_, rfl⟩
        obtain ⟨xt, Ht⟩ : ∃ x, Hid (x = t.extract 0 u.size) := ⟨_, rfl⟩
        obtain ⟨xu, Hu⟩ : ∃ x, Hid (x = u.extract 0 u.size) := ⟨_, rfl⟩
        have cuts : ∀ W : World, (Instr.slice 9 (.string s) none (some (.int .i64 (u.size : Int))) none).run Tryd.prog W = .ok (.string xs) W := fun W => by rw [Hs.out]; exact slice_pre s u.size (by omega) W
        have cutt : ∀ W : World, (Instr.slice 9 (.string t) none (some (.int .i64 (u.size : Int))) none).run Tryd.prog W = .ok (.string xt) W := fun W => by rw [Ht.out]; exact slice_pre t u.size (by omega) W
        have cutu : ∀ W : World, (Instr.slice 9 (.string u) none (some (.int .i64 (u.size : Int))) none).run Tryd.prog W = .ok (.string xu) W := fun W => by rw [Hu.out]; exact slice_pre u u.size (by omega) W
        have zs : xs.size = u.size := by rw [Hs.out, ByteArray.size_extract]; omega
        have zt : xt.size = u.size := by rw [Ht.out, ByteArray.size_extract]; omega
        have zu : xu.size = u.size := by rw [Hu.out, ByteArray.size_extract]; omega
        have Zs := hide zs
        have Zt := hide zt
        have Zu := hide zu
        clear zs zt zu
        go_enter Tryd.func6, Tryd.ntmps6
        go_wp2_with fail
        refine (awake_any _ HT.out).mono ?_
        rintro e w1 ⟨rfl, hu1⟩
        go_wp2
        go_quiet (fail)
        go_wp2_with fail
        have hT1 := hide ((HT.out.up hu1).up ((Up.refl _).drewN nq))
        refine (rxor_any xs xt _ (by rw [Zs.out]; omega) (by rw [Zs.out, Zt.out])).mono ?_
        rintro e w2 ⟨rfl, hu2⟩
        obtain ⟨y, Hy⟩ : ∃ y, Hid (y = bs (xl (by_ xs) (by_ xt))) := ⟨_, rfl⟩
        rw [← Hy.out]
        have Hyb : Hid (by_ y = xl (by_ xs) (by_ xt)) := by show _ = _; rw [Hy.out]; exact by_bs _ (xl_lt (by_lt xs) (by_lt xt))
        have Zy : Hid (y.size = xu.size) := by show _ = _; rw [← by_len, Hyb.out, xl_len _ _ (by rw [by_len, by_len, Zs.out, Zt.out]), by_len, Zs.out, Zu.out]
        go_wp2_with fail
        refine (rxor_any y xu _ (by rw [Zy.out, Zu.out]; omega) Zy.out).mono ?_
        rintro e w3 ⟨rfl, hu3⟩
        obtain ⟨v, Hv⟩ : ∃ v, Hid (v = bs (xl (by_ y) (by_ xu))) := ⟨_, rfl⟩
        rw [← Hv.out]
        have Hvb : Hid (by_ v = xl (by_ y) (by_ xu)) := by show _ = _; rw [Hv.out]; exact by_bs _ (xl_lt (by_lt y) (by_lt xu))
        have hT3 := hide ((hT1.out.up hu2).up hu3)
        go_wp2_with fail
        refine (crc_any v _ (by rw [← by_len, Hvb.out, xl_len _ _ (by rw [by_len, by_len, Zy.out]), by_len, Zy.out, Zu.out]; omega) hT3.out).mono ?_
        rintro e w4 ⟨rfl, rfl⟩
        go_wp2_with fail
        refine (crc_any xs _ (by rw [Zs.out]; omega) hT3.out).mono ?_
        rintro e w4 ⟨rfl, rfl⟩
        go_wp2_with fail
        refine (crc_any xt _ (by rw [Zt.out]; omega) hT3.out).mono ?_
        rintro e w4 ⟨rfl, rfl⟩
        go_wp2_with fail
        refine (crc_any xu _ (by rw [Zu.out]; omega) hT3.out).mono ?_
        rintro e w4 ⟨rfl, rfl⟩
        have hx := crc_xor_i (crc_lt (by_lt xs)) (crc_lt (by_lt xt)) (crc_lt (by_lt xu)) (v := crc (by_ v)) (by rw [Hvb.out, Hyb.out]; exact crc_xor3 _ _ _ (by rw [by_len, by_len, Zs.out, Zt.out]) (by rw [by_len, by_len, Zt.out, Zu.out]))
        go_wp2
        go_ret
        exact ⟨by first | rfl | (rw [hx]; simp), ((hu1.drewN nq).trans hu2).trans hu3⟩
      · have h2' : (s.size : Int) ≤ u.size := by omega
        obtain ⟨xs, Hs⟩ : ∃ x, Hid (x = s.extract 0 s.size) := ⟨_, rfl⟩
        obtain ⟨xt, Ht⟩ : ∃ x, Hid (x = t.extract 0 s.size) := ⟨_, rfl⟩
        obtain ⟨xu, Hu⟩ : ∃ x, Hid (x = u.extract 0 s.size) := ⟨_, rfl⟩
        have cuts : ∀ W : World, (Instr.slice 9 (.string s) none (some (.int .i64 (s.size : Int))) none).run Tryd.prog W = .ok (.string xs) W := fun W => by rw [Hs.out]; exact slice_pre s s.size (by omega) W
        have cutt : ∀ W : World, (Instr.slice 9 (.string t) none (some (.int .i64 (s.size : Int))) none).run Tryd.prog W = .ok (.string xt) W := fun W => by rw [Ht.out]; exact slice_pre t s.size (by omega) W
        have cutu : ∀ W : World, (Instr.slice 9 (.string u) none (some (.int .i64 (s.size : Int))) none).run Tryd.prog W = .ok (.string xu) W := fun W => by rw [Hu.out]; exact slice_pre u s.size (by omega) W
        have zs : xs.size = s.size := by rw [Hs.out, ByteArray.size_extract]; omega
        have zt : xt.size = s.size := by rw [Ht.out, ByteArray.size_extract]; omega
        have zu : xu.size = s.size := by rw [Hu.out, ByteArray.size_extract]; omega
        have Zs := hide zs
        have Zt := hide zt
        have Zu := hide zu
        clear zs zt zu
        go_enter Tryd.func6, Tryd.ntmps6
        go_wp2_with fail
        refine (awake_any _ HT.out).mono ?_
        rintro e w1 ⟨rfl, hu1⟩
        go_wp2
        go_quiet (fail)
        go_wp2_with fail
        have hT1 := hide ((HT.out.up hu1).up ((Up.refl _).drewN nq))
        refine (rxor_any xs xt _ (by rw [Zs.out]; omega) (by rw [Zs.out, Zt.out])).mono ?_
        rintro e w2 ⟨rfl, hu2⟩
        obtain ⟨y, Hy⟩ : ∃ y, Hid (y = bs (xl (by_ xs) (by_ xt))) := ⟨_, rfl⟩
        rw [← Hy.out]
        have Hyb : Hid (by_ y = xl (by_ xs) (by_ xt)) := by show _ = _; rw [Hy.out]; exact by_bs _ (xl_lt (by_lt xs) (by_lt xt))
        have Zy : Hid (y.size = xu.size) := by show _ = _; rw [← by_len, Hyb.out, xl_len _ _ (by rw [by_len, by_len, Zs.out, Zt.out]), by_len, Zs.out, Zu.out]
        go_wp2_with fail
        refine (rxor_any y xu _ (by rw [Zy.out, Zu.out]; omega) Zy.out).mono ?_
        rintro e w3 ⟨rfl, hu3⟩
        obtain ⟨v, Hv⟩ : ∃ v, Hid (v = bs (xl (by_ y) (by_ xu))) := ⟨_, rfl⟩
        rw [← Hv.out]
        have Hvb : Hid (by_ v = xl (by_ y) (by_ xu)) := by show _ = _; rw [Hv.out]; exact by_bs _ (xl_lt (by_lt y) (by_lt xu))
        have hT3 := hide ((hT1.out.up hu2).up hu3)
        go_wp2_with fail
        refine (crc_any v _ (by rw [← by_len, Hvb.out, xl_len _ _ (by rw [by_len, by_len, Zy.out]), by_len, Zy.out, Zu.out]; omega) hT3.out).mono ?_
        rintro e w4 ⟨rfl, rfl⟩
        go_wp2_with fail
        refine (crc_any xs _ (by rw [Zs.out]; omega) hT3.out).mono ?_
        rintro e w4 ⟨rfl, rfl⟩
        go_wp2_with fail
        refine (crc_any xt _ (by rw [Zt.out]; omega) hT3.out).mono ?_
        rintro e w4 ⟨rfl, rfl⟩
        go_wp2_with fail
        refine (crc_any xu _ (by rw [Zu.out]; omega) hT3.out).mono ?_
        rintro e w4 ⟨rfl, rfl⟩
        have hx := crc_xor_i (crc_lt (by_lt xs)) (crc_lt (by_lt xt)) (crc_lt (by_lt xu)) (v := crc (by_ v)) (by rw [Hvb.out, Hyb.out]; exact crc_xor3 _ _ _ (by rw [by_len, by_len, Zs.out, Zt.out]) (by rw [by_len, by_len, Zt.out, Zu.out]))
        go_wp2
        go_ret
        exact ⟨by first | rfl | (rw [hx]; simp), ((hu1.drewN nq).trans hu2).trans hu3⟩
  · have hle : decide ((2000 : Int) < s.size) = true := decide_eq_true (by omega)
    go_enter Tryd.func6, Tryd.ntmps6
    go_wp2_with fail
    refine (awake_any _ HT.out).mono ?_
    rintro e w1 ⟨rfl, hu1⟩
    go_wp2_with fail
    refine (awake_any _ (HT.out.up hu1)).mono ?_
    rintro e w2 ⟨rfl, hu2⟩
    go_wp2
    go_ret
    exact ⟨rfl, hu1.trans hu2⟩
end Go.Proofs.YtdnhecgjfanakaaDoor
