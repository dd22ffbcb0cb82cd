/- The laws on what one of two families accepts, on what both accept, and on given and failed servers. -/
import Derived.Test.YtfdlmgjjpcdkpaaDoorGd
namespace Go.Proofs.YtfdlmgjjpcdkpaaDoor
open Go.RowKit

theorem minE_len (l : List Nat) : (minE l).1.length ≤ l.length := by
  unfold minE
  split
  · simp
  · split
    · simp
    · exact minS_len l
theorem orE_len (f g : List Nat) : (orE f g).1.length ≤ f.length + g.length := by
  unfold orE
  split
  · simp
  · split
    · simp
    · have := minE_len (f ++ g)
      rwa [List.length_append] at this
theorem prd_len (f g : List Nat) : (prd f g).length = f.length * g.length := by
  unfold prd
  rw [List.length_flatMap]
  simp
  rw [List.map_const', List.sum_replicate_nat]
theorem andE_len (f g : List Nat) : (andE f g).1.length ≤ f.length * g.length := by
  unfold andE
  split
  · simp
  · split
    · simp
    · have := minE_len (prd f g)
      rwa [prd_len] at this
theorem givE_len (f : List Nat) (s : Nat) : (givE f s).1.length ≤ f.length := by
  unfold givE
  split
  · simp
  · have := minE_len (f.map fun p => andN p s)
    rwa [List.length_map] at this
theorem witE_len (f : List Nat) (s : Nat) : (witE f s).1.length ≤ f.length := by
  unfold witE
  split
  · simp
  · exact List.length_filter_le _ _
set_option maxRecDepth 100000 in
set_option maxHeartbeats 4000000 in
theorem joinedW (v v2 : Value) (w : World) (hTab : Tabs w) (hv : ∃ l, SetsIn w v l) (hv2 : ∃ l, SetsIn w v2 l) : Calls Tryd.prog 6 #[v, v2] w (RetV w (.bool true)) := by
  obtain ⟨f, A, n, c, rfl, hA0, hF0, hnl, hnc, hn63, _⟩ := hv
  obtain ⟨g, B, m, d, rfl, hB0, hG0, hml, hmd, hm63, _⟩ := hv2
  have HTab := hide hTab
  have HA := hide hA0
  have HB := hide hB0
  have HF : Hid (Small16 f) := hF0
  have HG : Hid (Small16 g) := hG0
  have Hn : Hid (n = f.length) := hnl
  have Hm : Hid (m = g.length) := hml
  clear hTab hA0 hB0 hF0 hG0 hnl hml
  by_cases h4 : n ≤ 20
  · by_cases h5 : m ≤ 20
    · have d1 : decide (20 < (n : Int)) = false := decide_eq_false (by omega)
      have d2 : decide (20 < (m : Int)) = false := decide_eq_false (by omega)
      have f1 := fun w hA hB => or_fam A B n c m d f g w hA hB Hn Hm HF HG (by omega) (by omega) hnc hmd
      have f2 := fun w hA hB => ror_fam A B n c m d f g w hA hB Hn Hm HF HG (by omega) (by omega)
      have f3 := fun w hA hB => and_fam A B n c m d f g w hA hB Hn Hm HF HG (by omega) (by omega) hnc hmd
      have f4 := fun w hA hB => rand_fam A B n c m d f g w hA hB Hn Hm HF HG (by omega) (by omega)
      have hlp : (orE f g).1.length ≤ 40 := by have h1 := orE_len f g; have h2 := Hn.out; have h3 := Hm.out; omega
      have hlq : (andE f g).1.length ≤ 400 := by have h1 := andE_len f g; rw [← Hn.out, ← Hm.out] at h1; have h2 : n * m ≤ 20 * 20 := Nat.mul_le_mul h4 h5; omega
      obtain ⟨p, Hp⟩ : ∃ p, Hid (p = orE f g) := ⟨_, rfl⟩
      obtain ⟨q, Hq⟩ : ∃ q, Hid (q = andE f g) := ⟨_, rfl⟩
      rw [← Hp.out] at f1 f2 hlp
      rw [← Hq.out] at f3 f4 hlq
      have q1 : (p.2 == p.2) = true := by simp
      have q2 : (q.2 == q.2) = true := by simp
      go_enter Tryd.func6, Tryd.ntmps6
      go_wp2_with fail
      refine (awake_any w HTab.out).mono ?_
      rintro e1 w1 ⟨rfl, hup⟩
      go_wp2_with fail
      refine (f1 w1 (HA.out.up hup) (HB.out.up hup)).mono ?_
      intro e2 w2 h2
      obtain ⟨A2, c2, n2, rfl, hV2, hn2, hu2⟩ := ret_open h2
      have HV2 := hide hV2
      have HN2 := hide hn2
      replace hup := hup.trans hu2
      clear hV2 hn2 h2 hu2
      go_wp2_with fail
      refine (f2 w2 (HA.out.up hup) (HB.out.up hup)).mono ?_
      intro e3 w3 h3
      obtain ⟨A3, c3, n3, rfl, hV3, hn3, hu3⟩ := ret_open h3
      have HV3 := hide hV3
      have HN3 := hide hn3
      replace HV2 := hide (HV2.out.up hu3)
      replace hup := hup.trans hu3
      clear hV3 hn3 h3 hu3
      go_wp2_with fail
      refine (f3 w3 (HA.out.up hup) (HB.out.up hup)).mono ?_
      intro e4 w4 h4
      obtain ⟨A4, c4, n4, rfl, hV4, hn4, hu4⟩ := ret_open h4
      have HV4 := hide hV4
      have HN4 := hide hn4
      replace HV2 := hide (HV2.out.up hu4)
      replace HV3 := hide (HV3.out.up hu4)
      replace hup := hup.trans hu4
      clear hV4 hn4 h4 hu4
      go_wp2_with fail
      refine (f4 w4 (HA.out.up hup) (HB.out.up hup)).mono ?_
      intro e5 w5 h5
      obtain ⟨A5, c5, n5, rfl, hV5, hn5, hu5⟩ := ret_open h5
      have HV5 := hide hV5
      have HN5 := hide hn5
      replace HV2 := hide (HV2.out.up hu5)
      replace HV3 := hide (HV3.out.up hu5)
      replace HV4 := hide (HV4.out.up hu5)
      replace hup := hup.trans hu5
      clear hV5 hn5 h5 hu5
      have z5 : Up w5 w5 := Up.refl _
      clear f1 f2 f3 f4
      have k1 := equal_any A2 A3 n2 c2 n3 c3 p.1 p.1 w5 (HV2.out.up z5) (HV3.out.up z5) HN2.out HN3.out (by rw [HN2.out]; omega) (by rw [HN3.out]; omega)
      rw [decide_eq_true rfl] at k1
      go_wp2_with fail
      refine k1.mono ?_
      rintro e6 w6 ⟨rfl, hu6⟩
      have z6 := z5.trans hu6
      clear k1 hu6
      have k2 := equal_any A4 A5 n4 c4 n5 c5 q.1 q.1 w6 (HV4.out.up z6) (HV5.out.up z6) HN4.out HN5.out (by rw [HN4.out]; omega) (by rw [HN5.out]; omega)
      rw [decide_eq_true rfl] at k2
      go_wp2_with fail
      refine k2.mono ?_
      rintro e7 w7 ⟨rfl, hu7⟩
      have z7 := z6.trans hu7
      clear k2 hu7
      go_wp2
      go_ret
      exact ⟨rfl, hup.trans z7⟩
    · have d1 : decide (20 < (n : Int)) = false := decide_eq_false (by omega)
      have d2 : decide (20 < (m : Int)) = true := decide_eq_true (by omega)
      clear h4 h5
      go_enter Tryd.func6, Tryd.ntmps6
      go_wp2_with fail
      refine (awake_any w HTab.out).mono ?_
      rintro e1 w1 ⟨rfl, hu1⟩
      go_wp2_with fail
      refine (awake_any w1 (HTab.out.up hu1)).mono ?_
      rintro e2 w2 ⟨rfl, hu2⟩
      go_wp2
      go_ret
      exact ⟨rfl, hu1.trans hu2⟩
  · have d1 : decide (20 < (n : Int)) = true := decide_eq_true (by omega)
    clear h4
    go_enter Tryd.func6, Tryd.ntmps6
    go_wp2_with fail
    refine (awake_any w HTab.out).mono ?_
    rintro e1 w1 ⟨rfl, hu1⟩
    go_wp2_with fail
    refine (awake_any w1 (HTab.out.up hu1)).mono ?_
    rintro e2 w2 ⟨rfl, hu2⟩
    go_wp2
    go_ret
    exact ⟨rfl, hu1.trans hu2⟩
theorem given_acc {f : List Nat} (hf : Small16 f) {s t : Nat} (hs : s < 65536) (ht : t < 65536) : (givE f s).2 = 0 → acc (givE f s).1 t = acc f (s ||| t) ∧ Small16 (givE f s).1 := by
  intro h
  unfold givE minE at h ⊢
  split at h
  · rename_i h1; exact absurd h h1
  · rename_i h1
    rw [if_neg h1]
    split at h
    · cases h
    · rename_i h2
      rw [if_neg h2]
      split at h
      · cases h
      · rename_i h3
        rw [if_neg h3]
        have hsm : Small16 (f.map fun p => andN p s) := by
          intro y hy
          obtain ⟨p, hp, rfl⟩ := List.mem_map.1 hy
          exact Nat.lt_of_le_of_lt Nat.and_le_left (hf p hp)
        exact ⟨(acc_minS hsm ht).trans (acc_giv hf hs ht), fun x hx => hsm x ((mem_minS _ x).1 hx).1⟩
theorem failed_acc {f : List Nat} (hf : Small16 f) {s t : Nat} (hs : s < 65536) (ht : t < 65536) : (givE f s).2 = 0 → acc (witE f s).1 t = acc f (andN t s) ∧ Small16 (witE f s).1 := by
  intro h
  unfold givE at h
  split at h
  · rename_i h1; exact absurd h h1
  · rename_i h1
    unfold witE
    rw [if_neg h1]
    exact ⟨acc_wit hf hs ht, fun x hx => hf x (List.mem_filter.1 hx).1⟩
set_option maxRecDepth 100000 in
set_option maxHeartbeats 4000000 in
theorem givenW (v : Value) (s t : Nat) (w : World) (hTab : Tabs w) (hv : ∃ l, SetsIn w v l) (hs : s < 65536) (ht : t < 65536) : Calls Tryd.prog 7 #[v, .int .u16 (s : Int), .int .u16 (t : Int)] w (RetV w (.bool true)) := by
  obtain ⟨f, A, n, c, rfl, hA0, hF0, hnl, hnc, hn63, _⟩ := hv
  have HTab := hide hTab
  have HA := hide hA0
  have HF : Hid (Small16 f) := hF0
  have Hn : Hid (n = f.length) := hnl
  clear hTab hA0 hF0 hnl
  by_cases h4 : n ≤ 40
  · have d1 : decide (40 < (n : Int)) = false := decide_eq_false (by omega)
    have f1 := fun w hA => given_any A n c f s w hA Hn HF hs (by omega) hnc
    have f2 := fun w hA => rgiven_any A n c f s w hA Hn HF hs (by omega)
    have f3 := fun w hA => without_any A n c f s w hA Hn HF hs (by omega) hnc
    have f4 := fun w hA => rwithout_any A n c f s w hA Hn HF hs (by omega)
    have hlp : (givE f s).1.length ≤ 40 := by have h1 := givE_len f s; have h2 := Hn.out; omega
    have hlq : (witE f s).1.length ≤ 40 := by have h1 := witE_len f s; have h2 := Hn.out; omega
    have HA1 : Hid ((givE f s).2 = 0 → acc (givE f s).1 t = acc f (s ||| t) ∧ Small16 (givE f s).1) := given_acc HF.out hs ht
    have HA2 : Hid ((givE f s).2 = 0 → acc (witE f s).1 t = acc f (andN t s) ∧ Small16 (witE f s).1) := failed_acc HF.out hs ht
    obtain ⟨p, Hp⟩ : ∃ p, Hid (p = givE f s) := ⟨_, rfl⟩
    obtain ⟨q, Hq⟩ : ∃ q, Hid (q = witE f s) := ⟨_, rfl⟩
    rw [← Hp.out] at f1 f2 hlp HA1 HA2
    rw [← Hq.out] at f3 f4 hlq HA2
    have q1 : (p.2 != p.2) = false := by simp
    have q2 : (q.2 != q.2) = false := by simp
    have q3 : (p.2 == p.2) = true := by simp
    have q4 : (q.2 == q.2) = true := by simp
    go_enter Tryd.func7, Tryd.ntmps7
    go_wp2_with fail
    refine (awake_any w HTab.out).mono ?_
    rintro e1 w1 ⟨rfl, hup⟩
    go_wp2_with fail
    refine (f1 w1 (HA.out.up hup)).mono ?_
    intro e2 w2 h2
    obtain ⟨A2, c2, n2, rfl, hV2, hn2, hu2⟩ := ret_open h2
    have HV2 := hide hV2
    have HN2 := hide hn2
    replace hup := hup.trans hu2
    clear hV2 hn2 h2 hu2
    go_wp2_with fail
    refine (f2 w2 (HA.out.up hup)).mono ?_
    intro e3 w3 h3
    obtain ⟨A3, c3, n3, rfl, hV3, hn3, hu3⟩ := ret_open h3
    have HV3 := hide hV3
    have HN3 := hide hn3
    replace HV2 := hide (HV2.out.up hu3)
    replace hup := hup.trans hu3
    clear hV3 hn3 h3 hu3
    go_wp2_with fail
    refine (f3 w3 (HA.out.up hup)).mono ?_
    intro e4 w4 h4
    obtain ⟨A4, c4, n4, rfl, hV4, hn4, hu4⟩ := ret_open h4
    have HV4 := hide hV4
    have HN4 := hide hn4
    replace HV2 := hide (HV2.out.up hu4)
    replace HV3 := hide (HV3.out.up hu4)
    replace hup := hup.trans hu4
    clear hV4 hn4 h4 hu4
    go_wp2_with fail
    refine (f4 w4 (HA.out.up hup)).mono ?_
    intro e5 w5 h5
    obtain ⟨A5, c5, n5, rfl, hV5, hn5, hu5⟩ := ret_open h5
    have HV5 := hide hV5
    have HN5 := hide hn5
    replace HV2 := hide (HV2.out.up hu5)
    replace HV3 := hide (HV3.out.up hu5)
    replace HV4 := hide (HV4.out.up hu5)
    replace hup := hup.trans hu5
    clear hV5 hn5 h5 hu5
    have z5 : Up w5 w5 := Up.refl _
    clear f1 f2 f3 f4
    have k1 := equal_any A2 A3 n2 c2 n3 c3 p.1 p.1 w5 (HV2.out.up z5) (HV3.out.up z5) HN2.out HN3.out (by rw [HN2.out]; omega) (by rw [HN3.out]; omega)
    rw [decide_eq_true rfl] at k1
    go_wp2_with fail
    refine k1.mono ?_
    rintro e6 w6 ⟨rfl, hu6⟩
    have z6 := z5.trans hu6
    clear k1 hu6
    have k2 := equal_any A4 A5 n4 c4 n5 c5 q.1 q.1 w6 (HV4.out.up z6) (HV5.out.up z6) HN4.out HN5.out (by rw [HN4.out]; omega) (by rw [HN5.out]; omega)
    rw [decide_eq_true rfl] at k2
    go_wp2_with fail
    refine k2.mono ?_
    rintro e7 w7 ⟨rfl, hu7⟩
    have z7 := z6.trans hu7
    clear k2 hu7
    by_cases hp0 : p.2 = 0
    · have q5 : (p.2 != 0) = false := by rw [bne_eq_false_iff_eq]; exact hp0
      obtain ⟨a1, s1⟩ := HA1.out hp0
      obtain ⟨a2, s2⟩ := HA2.out hp0
      have hor := or16 hs ht
      have hst := or_lt hs ht
      have handn := andn16 ht hs
      have htn : andN t s < 65536 := Nat.lt_of_le_of_lt Nat.and_le_left ht
      have g1 := acc_any A2 n2 c2 p.1 t w7 (HV2.out.up z7) HN2.out s1 ht (by rw [HN2.out]; omega)
      have g2 := fun w hA => acc_any A n c f (s ||| t) w hA Hn HF hst (by omega)
      have g3 := fun w hV => acc_any A4 n4 c4 q.1 t w hV HN4.out s2 ht (by rw [HN4.out]; omega)
      have g4 := fun w hA => acc_any A n c f (andN t s) w hA Hn HF htn (by omega)
      rw [a1] at g1
      rw [a2] at g3
      obtain ⟨b1, hb1⟩ : ∃ b, acc f (s ||| t) = b := ⟨_, rfl⟩
      obtain ⟨b2, hb2⟩ : ∃ b, acc f (andN t s) = b := ⟨_, rfl⟩
      rw [hb1] at g1 g2
      rw [hb2] at g3 g4
      obtain ⟨x, hx⟩ : ∃ x, s ||| t = x := ⟨_, rfl⟩
      obtain ⟨y, hy⟩ : ∃ y, andN t s = y := ⟨_, rfl⟩
      rw [hx] at hor g2
      rw [hy] at handn g4
      clear hp0 a1 a2 s1 s2 hb1 hb2 hx hy hst htn HA1 HA2
      have hA7 := HA.out.up (hup.trans z7)
      have hV7 := HV4.out.up z7
      go_wp2_with fail
      refine g1.mono ?_
      rintro e8 w8 ⟨rfl, rfl⟩
      go_wp2_with fail
      refine (g2 w8 hA7).mono ?_
      rintro e9 w9 ⟨rfl, rfl⟩
      go_wp2_with fail
      refine (g3 w9 hV7).mono ?_
      rintro e10 w10 ⟨rfl, rfl⟩
      go_wp2_with fail
      refine (g4 w10 hA7).mono ?_
      rintro e11 w11 ⟨rfl, rfl⟩
      clear g1 g2 g3 g4 hA7 hV7
      go_wp2
      go_ret
      exact ⟨rfl, hup.trans z7⟩
    · have q5 : (p.2 != 0) = true := by rw [bne_iff_ne]; exact hp0
      clear hp0
      have k3 := equal_any A2 A3 n2 c2 n3 c3 p.1 p.1 w7 (HV2.out.up z7) (HV3.out.up z7) HN2.out HN3.out (by rw [HN2.out]; omega) (by rw [HN3.out]; omega)
      rw [decide_eq_true rfl] at k3
      go_wp2_with fail
      refine k3.mono ?_
      rintro e8 w8 ⟨rfl, hu8⟩
      have z8 := z7.trans hu8
      clear k3 hu8
      have k4 := equal_any A4 A5 n4 c4 n5 c5 q.1 q.1 w8 (HV4.out.up z8) (HV5.out.up z8) HN4.out HN5.out (by rw [HN4.out]; omega) (by rw [HN5.out]; omega)
      rw [decide_eq_true rfl] at k4
      go_wp2_with fail
      refine k4.mono ?_
      rintro e9 w9 ⟨rfl, hu9⟩
      have z9 := z8.trans hu9
      clear k4 hu9
      go_wp2
      go_ret
      exact ⟨rfl, hup.trans z9⟩
  · have d1 : decide (40 < (n : Int)) = true := decide_eq_true (by omega)
    clear h4
    go_enter Tryd.func7, Tryd.ntmps7
    go_wp2_with fail
    refine (awake_any w HTab.out).mono ?_
    rintro e1 w1 ⟨rfl, hu1⟩
    go_wp2_with fail
    refine (awake_any w1 (HTab.out.up hu1)).mono ?_
    rintro e2 w2 ⟨rfl, hu2⟩
    go_wp2
    go_ret
    exact ⟨rfl, hu1.trans hu2⟩
end Go.Proofs.YtfdlmgjjpcdkpaaDoor
