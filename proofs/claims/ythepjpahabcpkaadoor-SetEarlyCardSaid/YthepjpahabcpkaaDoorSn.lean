/- The law on the members of a set. -/
import Derived.Test.YthepjpahabcpkaaDoorSl
namespace Go.Proofs.YthepjpahabcpkaaDoor
open Go.RowKit

theorem own_cell {w : World} {base g n c : Nat} {e : TypeId} {l : List Value} (h : w.ownsRow base e 1 (.slice (some ⟨g, 0, none⟩) n c) n l) {j : Nat} {x : Value} (hx : l[j]? = some x) : w.cell? ⟨g, 0 + j, none⟩ = some x := by
  obtain ⟨A, c', he, _, hV, _, _⟩ := own_vals h
  cases he
  obtain ⟨ad, hAd, _, hc⟩ := hV.at_ hx
  injection hAd with hAd
  subst hAd
  rw [← hc]
  congr 1
  unfold Addr.add
  split <;> simp_all
theorem own_up {w w' : World} {base n : Nat} {e : TypeId} {v : Value} {l : List Value} (h : w.ownsRow base e 1 v n l) (hu : Up w w') : w'.ownsRow base e 1 v n l := by
  by_cases hn : v.ownBlock = none
  · exact h.kept (up_grown hu) (.inl hn)
  · exact h.kept (up_grown hu) (.inr hn)
/-- Equal lists are found equal. -/
theorem eq_own (b1 b2 n : Nat) (v1 v2 : Value) (l : List Int) (w : World) (h1 : w.ownsRow b1 3 1 v1 n (is l)) (h2 : w.ownsRow b2 3 1 v2 n (is l)) (hn : n ≤ 1000000) :
    Calls Tryd.prog 19 #[v1, v2] w (RetV w (.bool true)) := by
  have hl : l.length = n := by have := h1.1; rw [is_len] at this; omega
  by_cases h0 : n = 0
  · subst h0
    obtain ⟨A1, c1, rfl, _⟩ := own_vals h1
    obtain ⟨A2, c2, rfl, _⟩ := own_vals h2
    refine (Tryd.slices_Equal_int_empty A1 A2 c1 0 c2 w (by omega)).mono ?_
    rintro e w' ⟨rfl, rfl⟩
    exact ⟨rfl, Up.refl _⟩
  · rcases h1.2 with ⟨_, h⟩ | ⟨g1, c1, _, rfl, _⟩
    · omega
    rcases h2.2 with ⟨_, h⟩ | ⟨g2, c2, _, rfl, _⟩
    · omega
    refine (Tryd.slices_Equal_int g1 0 n c1 g2 0 n c2 l l w (by omega) (by omega) (by omega) (by omega) (fun j hj => own_cell h1 (is_get hj)) (fun j hj => own_cell h2 (is_get hj))).mono ?_
    rintro e w' ⟨rfl, q, rfl⟩
    refine ⟨?_, (Up.refl w).drewN q⟩
    congr 2
    simp
theorem of_mem : ∀ (l : List Nat) (acc : Nat), (∀ i ∈ l, i < 12) → l.Nodup → (∀ i ∈ l, acc.testBit i = false) → ofS acc (l.map Int.ofNat) = (l.foldl (fun a i => a ||| 2 ^ i) acc, 0) := by
  intro l
  induction l with
  | nil => intro acc _ _ _; rfl
  | cons i l ih =>
    intro acc h12 hnd hacc
    have hi := h12 i (by simp)
    have hadd : addS acc (Int.ofNat i) = (acc ||| 2 ^ i, 0) := by
      unfold addS
      have e1 : (Int.ofNat i).toNat = i := rfl
      have e2 : Int.ofNat i = (i : Int) := rfl
      rw [if_neg (by rw [e2]; omega), e1, hacc i (by simp)]
      rfl
    rw [List.map_cons, ofS, hadd, if_pos rfl, List.foldl_cons]
    refine ih _ (fun j hj => h12 j (by simp [hj])) (List.nodup_cons.1 hnd).2 fun j hj => ?_
    have hne : i ≠ j := fun e => (List.nodup_cons.1 hnd).1 (e ▸ hj)
    rw [Nat.testBit_or, hacc j (by simp [hj]), Nat.testBit_two_pow]
    simp [hne]
theorem fold_bit (l : List Nat) : ∀ (acc i : Nat), (l.foldl (fun a i => a ||| 2 ^ i) acc).testBit i = (acc.testBit i || decide (i ∈ l)) := by
  induction l with
  | nil => intro acc i; simp
  | cons j l ih =>
    intro acc i
    rw [List.foldl_cons, ih, Nat.testBit_or, Nat.testBit_two_pow]
    by_cases h : j = i
    · subst h; simp
    · have : ¬ i = j := fun e => h e.symm
      simp [h, this]
theorem fold_mem {s : Nat} (hs : s < 65536) : (mem 16 s).foldl (fun a i => a ||| 2 ^ i) 0 = s := by
  apply Nat.eq_of_testBit_eq
  intro i
  rw [fold_bit]
  by_cases h : i < 16
  · cases hb : s.testBit i with
    | true => simp [mem_iff, h, hb]
    | false => simp [mem_iff, hb]
  · rw [lt_bit (show s < 2 ^ 16 from hs) (by omega)]
    simp [mem_iff, h]
theorem mem_nodup (m s : Nat) : (mem m s).Nodup := (mem_sorted m s).imp fun h => Nat.ne_of_lt h
theorem of_small {s : Nat} (hs : s < 4096) : ofS 0 ((mem 16 s).map Int.ofNat) = (s, 0) := by
  rw [of_mem _ 0 (fun i hi => ?_) (mem_nodup _ _) (fun i _ => by simp), fold_mem (by omega)]
  have := (mem_iff.1 hi).2
  rcases Nat.lt_or_ge i 12 with h | h
  · exact h
  · rw [lt_bit (show s < 2 ^ 12 from hs) h] at this; cases this
theorem of_bad : ∀ (l : List Int) (acc : Nat), (∃ i ∈ l, 12 ≤ i) → (ofS acc l).2 ≠ 0 := by
  intro l
  induction l with
  | nil => rintro acc ⟨i, hi, _⟩; cases hi
  | cons j l ih =>
    rintro acc ⟨i, hi, h12⟩
    rw [ofS]
    by_cases h : (addS acc j).2 = 0
    · rw [if_pos h]
      rcases List.mem_cons.1 hi with rfl | hi
      · exfalso
        unfold addS at h
        rw [if_pos (by omega)] at h
        simp at h
      · exact ih _ ⟨i, hi, h12⟩
    · rw [if_neg h]
      exact h
theorem of_large {s : Nat} (hs : s < 65536) (h : 4096 ≤ s) : (ofS 0 ((mem 16 s).map Int.ofNat)).2 ≠ 0 := by
  refine of_bad _ 0 ?_
  obtain ⟨i, hi, hb⟩ : ∃ i, 12 ≤ i ∧ s.testBit i = true := by
    have hlog : 12 ≤ s.log2 := (Nat.le_log2 (by omega)).2 (by omega)
    exact ⟨s.log2, hlog, (mem_top (b := s) hs (by omega)).2.2.2⟩
  refine ⟨(i : Int), ?_, by omega⟩
  rw [List.mem_map]
  refine ⟨i, mem_iff.2 ⟨?_, hb⟩, rfl⟩
  rcases Nat.lt_or_ge i 16 with h1 | h1
  · exact h1
  · rw [lt_bit (show s < 2 ^ 16 from hs) h1] at hb; cases hb
set_option maxRecDepth 100000 in
set_option maxHeartbeats 4000000 in
theorem membersW (s : Nat) (w : World) (hTab : Tabs w) (hs : s < 65536) : Calls Tryd.prog 4 #[.int .u16 (s : Int)] w (RetV w (.bool true)) := by
  have HTab := hide hTab
  clear hTab
  have m1 := fun w hT => members_any s w hT hs
  have m2 := fun w => rmembers_any s w hs
  have m3 := fun w => count_any s w hs
  obtain ⟨p, Hp⟩ : ∃ p, Hid (p = ofS 0 ((mem 16 s).map Int.ofNat)) := ⟨_, rfl⟩
  obtain ⟨n, hn⟩ : ∃ n, cnt s = n := ⟨_, rfl⟩
  have hn16 : n ≤ 16 := by rw [← hn]; exact cnt_le s
  have Hn : Hid (n = ((mem 16 s).map Int.ofNat).length) := by show n = _; rw [← hn, List.length_map]; rfl
  rw [hn] at m1 m2 m3
  have m4 := fun A c w hA => of_any A n c ((mem 16 s).map Int.ofNat) w hA Hn (by omega)
  rw [← Hp.out] at m4
  clear hn
  obtain ⟨t, e⟩ := p
  unfold RetE at m4
  dsimp only at m4
  have n0 : ((n : Int) != (n : Int)) = false := by simp
  go_enter Tryd.func4, Tryd.ntmps4
  go_wp2_with fail
  refine (awake_any w HTab.out).mono ?_
  rintro e1 w1 ⟨rfl, hu1⟩
  go_wp2_with fail
  refine (m1 w1 (HTab.out.up hu1)).mono ?_
  rintro e2 w2 ⟨v2, rfl, hown2, hu2⟩
  go_wp2_with fail
  refine (m2 w2).mono ?_
  rintro e3 w3 ⟨v3, rfl, hown3, hu3⟩
  have hown2' := own_up hown2 hu3
  go_wp2_with fail
  refine (eq_own _ _ n v2 v3 _ w3 hown2' hown3 (by omega)).mono ?_
  rintro e4 w4 ⟨rfl, hu4⟩
  obtain ⟨A2, c2, rfl, hc2, hV2, _, _⟩ := own_vals hown2'
  have HV := hide (hV2.up hu4)
  clear hown2 hown2' hown3 hV2
  go_wp2_with fail
  refine (m3 w4).mono ?_
  rintro e5 w5 ⟨rfl, hu5⟩
  go_wp2_with fail
  refine (m4 A2 c2 w5 (HV.out.up hu5)).mono ?_
  rintro e6 w6 ⟨rfl, hu6⟩
  have hup : Up w w6 := ((((hu1.trans hu2).trans hu3).trans hu4).trans hu5).trans hu6
  clear hu1 hu2 hu3 hu4 hu5 hu6 m1 m2 m3 m4
  by_cases hlt : s < 4096
  · have h := Hp.out.trans (of_small hlt)
    injection h with ht he
    have d : decide ((s : Int) < 4096) = true := decide_eq_true (by omega)
    have q : ((s : Int) == (s : Int)) = true := by simp
    clear hlt
    subst ht he
    go_wp2
    go_ret
    exact ⟨rfl, hup⟩
  · have he : e ≠ 0 := by have h := of_large hs (by omega); rw [← Hp.out] at h; exact h
    have d : decide ((s : Int) < 4096) = false := decide_eq_false (by omega)
    have q : (e == 0) = false := by rw [beq_eq_false_iff_ne]; exact he
    have q2 : (e != 0) = true := by rw [bne_iff_ne]; exact he
    clear hlt he
    go_wp2
    go_ret
    exact ⟨rfl, hup⟩
end Go.Proofs.YthepjpahabcpkaaDoor
