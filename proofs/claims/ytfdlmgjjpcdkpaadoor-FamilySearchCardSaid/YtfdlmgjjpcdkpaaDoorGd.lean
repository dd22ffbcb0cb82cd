/- The laws on the error of a family, on minimal and maximal sets, on what a list accepts. -/
import Derived.Test.YtfdlmgjjpcdkpaaDoorGc
namespace Go.Proofs.YtfdlmgjjpcdkpaaDoor
open Go.RowKit

/-- A list of sets that came in. -/
def SetsIn (w : World) (v : Value) (l : List Nat) : Prop := ∃ A n c, v = .slice A n c ∧ Vals w A (us l) ∧ Small16 l ∧ n = l.length ∧ n ≤ c ∧ n ≤ 9223372036854775807 ∧ (A = none → n = 0 ∧ c = 0)
/-- A result that is a list and an error, opened. -/
theorem ret_open {w : World} {p : List Nat × Int} {e : Ending} {w' : World} (h : RetP w p e w') : ∃ A c n, e = .returned (.tuple #[.slice A n c, .int .i64 p.2]) ∧ Vals w' A (us p.1) ∧ n = p.1.length ∧ Up w w' := by
  obtain ⟨v, he, hown, hu⟩ := h
  obtain ⟨A, c, rfl, _, hV, hl, _⟩ := own_vals hown
  exact ⟨A, c, _, he, hV, rfl, hu⟩
set_option maxRecDepth 100000 in
set_option maxHeartbeats 4000000 in
theorem validW (v : Value) (w : World) (hTab : Tabs w) (hv : ∃ l, SetsIn w v l) : Calls Tryd.prog 3 #[v] w (RetV w (.bool true)) := by
  obtain ⟨l, A, n, c, rfl, hV0, h16, hnl, hnc, hn63, hnil⟩ := hv
  have HTab := hide hTab
  have HV := hide hV0
  have Hnil := hide hnil
  have HS : Hid (Small16 l) := h16
  have Hn : Hid (n = l.length) := hnl
  clear hTab hV0 hnil h16 hnl
  by_cases h4 : n ≤ 410
  · have d : decide (410 < (n : Int)) = false := decide_eq_false (by omega)
    have f1 := fun w A c hA hnc => valid_any A n c l w hA Hn HS (by omega) hnc
    have f2 := fun w hA => rvalid_any A n c l w hA Hn HS (by omega)
    obtain ⟨er, Her⟩ : ∃ er, Hid (er = valE l) := ⟨_, rfl⟩
    rw [← Her.out] at f1 f2
    have q : (er == er) = true := by simp
    go_enter Tryd.func3, Tryd.ntmps3
    go_wp2_with fail
    refine (awake_any w HTab.out).mono ?_
    rintro e1 w1 ⟨rfl, hu1⟩
    go_wp2_with fail
    refine (clone_any A n c l w1 (HV.out.up hu1) Hn Hnil.out (by omega)).mono ?_
    rintro e2 w2 ⟨A2, c2, rfl, hc2, hV2, hu2⟩
    have HV2 := hide hV2
    clear hV2
    go_wp2_with fail
    refine (f1 w2 A2 c2 HV2.out hc2).mono ?_
    rintro e3 w3 ⟨rfl, hu3⟩
    go_wp2_with fail
    refine (f2 w3 (HV.out.up ((hu1.trans hu2).trans hu3))).mono ?_
    rintro e4 w4 ⟨rfl, hu4⟩
    clear f1 f2
    go_wp2
    go_ret
    exact ⟨rfl, ((hu1.trans hu2).trans hu3).trans hu4⟩
  · have d : decide (410 < (n : Int)) = true := decide_eq_true (by omega)
    clear h4
    go_enter Tryd.func3, Tryd.ntmps3
    go_wp2_with fail
    refine (awake_any w HTab.out).mono ?_
    rintro e1 w1 ⟨rfl, hu1⟩
    go_wp2_with fail
    refine (awake_any w1 (HTab.out.up hu1)).mono ?_
    rintro e2 w2 ⟨rfl, hu2⟩
    go_wp2
    go_ret
    exact ⟨rfl, hu1.trans hu2⟩
set_option maxRecDepth 100000 in
set_option maxHeartbeats 4000000 in
theorem minimalW (v : Value) (w : World) (hTab : Tabs w) (hv : ∃ l, SetsIn w v l) : Calls Tryd.prog 4 #[v] w (RetV w (.bool true)) := by
  obtain ⟨l, A, n, c, rfl, hV0, h16, hnl, hnc, hn63, hnil⟩ := hv
  have HTab := hide hTab
  have HV := hide hV0
  have Hnil := hide hnil
  have HS : Hid (Small16 l) := h16
  have Hn : Hid (n = l.length) := hnl
  clear hTab hV0 hnil h16 hnl
  by_cases h4 : n ≤ 100
  · have d : decide (100 < (n : Int)) = false := decide_eq_false (by omega)
    have f1 := fun w A c hA => minimal_any A n c l w hA Hn HS (by omega)
    have f2 := fun w hA => rminimal_any A n c l w hA Hn HS (by omega)
    have f3 := fun w A c hA => maximal_any A n c l w hA Hn HS (by omega)
    have f4 := fun w hA => rmaximal_any A n c l w hA Hn HS (by omega)
    have hlp : (minE l).1.length ≤ 100 := by
      unfold minE
      split
      · simp
      · split
        · simp
        · have := minS_len l
          have := Hn.out
          simp
          omega
    have hlq : (maxE l).1.length ≤ 100 := by
      unfold maxE
      split
      · simp
      · split
        · simp
        · have := maxS_len l
          have := Hn.out
          simp
          omega
    obtain ⟨p, Hp⟩ : ∃ p, Hid (p = minE l) := ⟨_, rfl⟩
    obtain ⟨q, Hq⟩ : ∃ q, Hid (q = maxE l) := ⟨_, rfl⟩
    rw [← Hp.out] at f1 f2 hlp
    rw [← Hq.out] at f3 f4 hlq
    have q1 : (p.2 == p.2) = true := by simp
    have q2 : (q.2 == q.2) = true := by simp
    go_enter Tryd.func4, Tryd.ntmps4
    go_wp2_with fail
    refine (awake_any w HTab.out).mono ?_
    rintro e1 w1 ⟨rfl, hu1⟩
    go_wp2_with fail
    refine (clone_any A n c l w1 (HV.out.up hu1) Hn Hnil.out (by omega)).mono ?_
    rintro e2 w2 ⟨A2, c2, rfl, hc2, hV2, hu2⟩
    have HV2 := hide hV2
    replace hu2 := hu1.trans hu2
    clear hV2 hu1
    go_wp2_with fail
    refine (f1 w2 A2 c2 HV2.out).mono ?_
    intro e3 w3 h3
    obtain ⟨A3, c3, n3, rfl, hV3, hn3, hu3⟩ := ret_open h3
    have HV3 := hide hV3
    have HN3 := hide hn3
    replace hu2 := hu2.trans hu3
    have z3 : Up w3 w3 := Up.refl _
    clear hV3 hn3 h3 hu3
    go_wp2_with fail
    refine (f2 w3 (HV.out.up hu2)).mono ?_
    intro e4 w4 h4
    obtain ⟨A4, c4, n4, rfl, hV4, hn4, hu4⟩ := ret_open h4
    have HV4 := hide hV4
    have HN4 := hide hn4
    replace HV3 := hide (HV3.out.up hu4)
    replace hu2 := hu2.trans hu4
    clear hV4 hn4 h4 hu4
    go_wp2_with fail
    refine (clone_any A n c l w4 (HV.out.up hu2) Hn Hnil.out (by omega)).mono ?_
    rintro e5 w5 ⟨A5, c5, rfl, hc5, hV5, hu5⟩
    have HV5 := hide hV5
    replace HV3 := hide (HV3.out.up hu5)
    replace HV4 := hide (HV4.out.up hu5)
    replace hu2 := hu2.trans hu5
    clear hV5 hu5
    go_wp2_with fail
    refine (f3 w5 A5 c5 HV5.out).mono ?_
    intro e6 w6 h6
    obtain ⟨A6, c6, n6, rfl, hV6, hn6, hu6⟩ := ret_open h6
    have HV6 := hide hV6
    have HN6 := hide hn6
    replace HV3 := hide (HV3.out.up hu6)
    replace HV4 := hide (HV4.out.up hu6)
    replace hu2 := hu2.trans hu6
    clear hV6 hn6 h6 hu6
    go_wp2_with fail
    refine (f4 w6 (HV.out.up hu2)).mono ?_
    intro e7 w7 h7
    obtain ⟨A7, c7, n7, rfl, hV7, hn7, hu7⟩ := ret_open h7
    have HV7 := hide hV7
    have HN7 := hide hn7
    replace HV3 := hide (HV3.out.up hu7)
    replace HV4 := hide (HV4.out.up hu7)
    replace HV6 := hide (HV6.out.up hu7)
    replace hu2 := hu2.trans hu7
    clear hV7 hn7 h7 hu7 f1 f2 f3 f4 z3
    have k1 := equal_any A3 A4 n3 c3 n4 c4 p.1 p.1 w7 HV3.out HV4.out HN3.out HN4.out (by rw [HN3.out]; omega) (by rw [HN4.out]; omega)
    rw [decide_eq_true rfl] at k1
    go_wp2_with fail
    refine k1.mono ?_
    rintro e8 w8 ⟨rfl, hu8⟩
    have k2 := equal_any A6 A7 n6 c6 n7 c7 q.1 q.1 w8 (HV6.out.up hu8) (HV7.out.up hu8) HN6.out HN7.out (by rw [HN6.out]; omega) (by rw [HN7.out]; omega)
    rw [decide_eq_true rfl] at k2
    clear k1
    go_wp2_with fail
    refine k2.mono ?_
    rintro e9 w9 ⟨rfl, hu9⟩
    clear k2
    go_wp2
    go_ret
    exact ⟨rfl, (hu2.trans hu8).trans hu9⟩
  · have d : decide (100 < (n : Int)) = true := decide_eq_true (by omega)
    clear h4
    go_enter Tryd.func4, Tryd.ntmps4
    go_wp2_with fail
    refine (awake_any w HTab.out).mono ?_
    rintro e1 w1 ⟨rfl, hu1⟩
    go_wp2_with fail
    refine (awake_any w1 (HTab.out.up hu1)).mono ?_
    rintro e2 w2 ⟨rfl, hu2⟩
    go_wp2
    go_ret
    exact ⟨rfl, hu1.trans hu2⟩
set_option maxRecDepth 100000 in
set_option maxHeartbeats 4000000 in
theorem acceptsW (v v2 : Value) (s : Nat) (w : World) (hTab : Tabs w) (hv : ∃ l, SetsIn w v l) (hv2 : ∃ l, SetsIn w v2 l) (hs : s < 65536) : Calls Tryd.prog 5 #[v, v2, .int .u16 (s : Int)] w (RetV w (.bool true)) := by
  obtain ⟨f, A, n, c, rfl, hA0, hF0, hnl, hnc, hn63, _⟩ := hv
  obtain ⟨g, B, m, d, rfl, hB0, hG0, hml, hmd, hm63, _⟩ := hv2
  have HTab := hide hTab
  have HA := hide hA0
  have HB := hide hB0
  have HF : Hid (Small16 f) := hF0
  have HG : Hid (Small16 g) := hG0
  have Hn : Hid (n = f.length) := hnl
  have Hm : Hid (m = g.length) := hml
  clear hTab hA0 hB0 hF0 hG0 hnl hml
  by_cases h4 : n ≤ 40
  · by_cases h5 : m ≤ 40
    · have d1 : decide (40 < (n : Int)) = false := decide_eq_false (by omega)
      have d2 : decide (40 < (m : Int)) = false := decide_eq_false (by omega)
      have f1 := fun w hA => acc_any A n c f s w hA Hn HF hs (by omega)
      have f2 := fun w hA => racc_any A n c f s w hA Hn HF hs (by omega)
      have f3 := fun w hA hB => within_any A B n c m d f g w hA hB Hn Hm HF HG (by omega) (by omega)
      have f4 := fun w hA hB => rwithin_any A B n c m d f g w hA hB Hn Hm HF HG (by omega) (by omega)
      have f5 := fun w hA => support_any A n c f w hA Hn HF (by omega)
      have f6 := fun w hA => rsupport_any A n c f w hA Hn HF (by omega)
      obtain ⟨b1, hb1⟩ : ∃ b, acc f s = b := ⟨_, rfl⟩
      obtain ⟨b2, hb2⟩ : ∃ b, wit f g = b := ⟨_, rfl⟩
      obtain ⟨b3, hb3⟩ : ∃ b, sup 0 f = b := ⟨_, rfl⟩
      rw [hb1] at f1 f2
      rw [hb2] at f3 f4
      rw [hb3] at f5 f6
      clear hb1 hb2 hb3
      have q1 : (b1 == b1) = true := by simp
      have q2 : (b2 == b2) = true := by simp
      have q3 : ((b3 : Int) == (b3 : Int)) = true := by simp
      go_enter Tryd.func5, Tryd.ntmps5
      go_wp2_with fail
      refine (awake_any w HTab.out).mono ?_
      rintro e1 w1 ⟨rfl, hu1⟩
      have hA := HA.out.up hu1
      have hB := HB.out.up hu1
      go_wp2_with fail
      refine (f1 w1 hA).mono ?_
      rintro e2 w2 ⟨rfl, rfl⟩
      go_wp2_with fail
      refine (f2 w2 hA).mono ?_
      rintro e2 w3 ⟨rfl, rfl⟩
      go_wp2_with fail
      refine (f3 w3 hA hB).mono ?_
      rintro e2 w4 ⟨rfl, rfl⟩
      go_wp2_with fail
      refine (f4 w4 hA hB).mono ?_
      rintro e2 w5 ⟨rfl, rfl⟩
      go_wp2_with fail
      refine (f5 w5 hA).mono ?_
      rintro e2 w6 ⟨rfl, rfl⟩
      go_wp2_with fail
      refine (f6 w6 hA).mono ?_
      rintro e2 w7 ⟨rfl, rfl⟩
      clear f1 f2 f3 f4 f5 f6 hA hB
      go_wp2
      go_ret
      exact ⟨rfl, hu1⟩
    · have d1 : decide (40 < (n : Int)) = false := decide_eq_false (by omega)
      have d2 : decide (40 < (m : Int)) = true := decide_eq_true (by omega)
      clear h4 h5
      go_enter Tryd.func5, Tryd.ntmps5
      go_wp2_with fail
      refine (awake_any w HTab.out).mono ?_
      rintro e1 w1 ⟨rfl, hu1⟩
      go_wp2_with fail
      refine (awake_any w1 (HTab.out.up hu1)).mono ?_
      rintro e2 w2 ⟨rfl, hu2⟩
      go_wp2
      go_ret
      exact ⟨rfl, hu1.trans hu2⟩
  · have d1 : decide (40 < (n : Int)) = true := decide_eq_true (by omega)
    clear h4
    go_enter Tryd.func5, Tryd.ntmps5
    go_wp2_with fail
    refine (awake_any w HTab.out).mono ?_
    rintro e1 w1 ⟨rfl, hu1⟩
    go_wp2_with fail
    refine (awake_any w1 (HTab.out.up hu1)).mono ?_
    rintro e2 w2 ⟨rfl, hu2⟩
    go_wp2
    go_ret
    exact ⟨rfl, hu1.trans hu2⟩
end Go.Proofs.YtfdlmgjjpcdkpaaDoor
