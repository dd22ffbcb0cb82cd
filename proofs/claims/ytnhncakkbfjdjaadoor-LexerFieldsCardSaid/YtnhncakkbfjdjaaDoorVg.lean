/- The laws on lines and on fields. -/
import Derived.Test.YtnhncakkbfjdjaaDoorVe
namespace Go.Proofs.YtnhncakkbfjdjaaDoor
open Go.RowKit

theorem joinL_take (L : List (List Nat)) (k : Nat) (h : k < L.length) : joinL (L.take (k + 1)) = joinL (L.take k) ++ (L.getD k [] ++ [10]) := by
  rw [List.take_succ_eq_append_getElem h, joinL_append, List.getD, List.getElem?_eq_getElem h]
  simp [joinL]
theorem joinF_take (L : List (List Nat)) (k : Nat) (h : k < L.length) : joinF (L.take (k + 1)) = joinF (L.take k) ++ (L.getD k [] ++ [32, 9, 10]) := by
  rw [List.take_succ_eq_append_getElem h, joinF_append, List.getD, List.getElem?_eq_getElem h]
  simp [joinF]
theorem joinL_takeLen (L : List (List Nat)) (k : Nat) : (joinL (L.take k)).length ≤ (joinL L).length := by
  conv => rhs; rw [← List.take_append_drop k L, joinL_append, List.length_append]
  omega
theorem joinF_takeLen (L : List (List Nat)) (k : Nat) : (joinF (L.take k)).length ≤ (joinF L).length := by
  conv => rhs; rw [← List.take_append_drop k L, joinF_append, List.length_append]
  omega
theorem sb_get {L : List (List Nat)} {k : Nat} (h : k < L.length) : (sb L)[k]? = some (.string (bs (L.getD k []))) := by simp [sb, ss, List.getD, h]
theorem fldG_lt (l : List Nat) : ∀ cur, (∀ x ∈ cur, x < 256) → (∀ x ∈ l, x < 256) → ∀ x ∈ fldG cur l, ∀ y ∈ x, y < 256 := by
  induction l with
  | nil =>
    intro cur hc _ x hx
    unfold fldG at hx
    split at hx
    · simp at hx
    · simp at hx; subst hx; exact hc
  | cons c r ih =>
    intro cur hc hl x hx
    have hr : ∀ x ∈ r, x < 256 := fun x hx => hl x (by simp [hx])
    unfold fldG at hx
    split at hx
    · split at hx
      · exact ih [] (by simp) hr x hx
      · rcases List.mem_cons.1 hx with rfl | hx
        · exact hc
        · exact ih [] (by simp) hr x hx
    · exact ih (cur ++ [c]) (fun y hy => by
        rcases List.mem_append.1 hy with hy | hy
        · exact hc y hy
        · simp at hy; subst hy; exact hl y (by simp)) hr x hx
theorem joinF_lt (L : List (List Nat)) (h : ∀ x ∈ L, ∀ y ∈ x, y < 256) : ∀ x ∈ 13 :: joinF L, x < 256 := by
  intro x hx
  rcases List.mem_cons.1 hx with rfl | hx
  · decide
  · unfold joinF at hx
    rw [List.mem_flatMap] at hx
    obtain ⟨y, hy, hx⟩ := hx
    rcases List.mem_append.1 hx with hx | hx
    · exact h y hy x hx
    · simp at hx; omega
theorem toList_size (s : ByteArray) : s.toList.length = s.size := by
  rw [Lib.toList_data s, Array.length_toList]; rfl
theorem ne_size {s t : ByteArray} (h : s.size ≠ t.size) : (s.toList == t.toList) = false := by
  rw [beq_eq_false_iff_ne]
  intro e
  have := congrArg List.length e
  rw [toList_size, toList_size] at this
  exact h this
/-- What the law on lines compares at the end. -/
theorem whole_eq (s : ByteArray) (t : List Nat) (ht : t = joinL (lns (by_ s))) (b : Bool) (h0 : s.size = 0 → b = true) (h1 : ∀ (n : Nat), s.size = n + 1 → (b = true ↔ (by_ s).getD n 0 = 10)) : ((bs t).toList == s.toList) = b := by
  have e := joinL_lns (by_ s) []
  rw [List.nil_append] at e
  have e2 : joinL (lns (by_ s)) = joinL (lnsG [] (by_ s)) := rfl
  rw [e2, e] at ht
  clear e e2
  by_cases hc : by_ s = [] ∨ (by_ s).getLast? = some 10
  · rw [if_pos hc] at ht
    have hb : b = true := by
      rcases hc with hc | hc
      · exact h0 (by rw [← by_len, hc]; rfl)
      · obtain ⟨n, hn⟩ : ∃ n, s.size = n + 1 := by
          have : by_ s ≠ [] := by intro h; rw [h] at hc; simp at hc
          have := List.length_pos_iff.2 this
          rw [by_len] at this
          exact ⟨s.size - 1, by omega⟩
        rw [h1 n hn]
        rw [List.getLast?_eq_getElem?, by_len, hn] at hc
        simp at hc
        rw [List.getD, hc]; rfl
    rw [hb, ht, bs_by]
    simp
  · rw [if_neg hc] at ht
    have hb : b = false := by
      have hne : by_ s ≠ [] := fun h => hc (.inl h)
      obtain ⟨n, hn⟩ : ∃ n, s.size = n + 1 := by
        have := List.length_pos_iff.2 hne
        rw [by_len] at this
        exact ⟨s.size - 1, by omega⟩
      cases hb : b with
      | false => rfl
      | true =>
        exfalso
        have h10 := (h1 n hn).1 hb
        refine hc (.inr ?_)
        have hlt : n < (by_ s).length := by rw [by_len]; omega
        rw [List.getLast?_eq_getElem?, by_len, hn]
        simp only [Nat.add_sub_cancel]
        rw [List.getD, List.getElem?_eq_getElem hlt] at h10
        rw [List.getElem?_eq_getElem hlt]
        simpa using h10
    rw [hb]
    refine ne_size ?_
    rw [bs_size, ht, List.length_append, by_len]
    simp
set_option maxRecDepth 100000 in
set_option maxHeartbeats 4000000 in
theorem linesW (s : ByteArray) (w : World) (hTab : Tabs w) (hs : s.size ≤ 9223372036854775807) : Calls Tryd.prog 9 #[.string s] w (RetB w true) := by
  have HTab := hide hTab
  clear hTab
  by_cases h2 : s.size ≤ 2000
  · have d1 : decide ((2000 : Int) < s.size) = false := decide_eq_false (by omega)
    obtain ⟨L, HL⟩ : ∃ L, Hid (L = lns (by_ s)) := ⟨_, rfl⟩
    obtain ⟨n, Hn⟩ : ∃ n, Hid (n = L.length) := ⟨_, rfl⟩
    have hlen := lnsG_len (by_ s) []
    rw [show lnsG [] (by_ s) = L from HL.out.symm, by_len, ← Hn.out] at hlen
    obtain ⟨hn, hj⟩ := hlen
    simp only [List.length_nil] at hn hj
    go_enter Tryd.func9, Tryd.ntmps9
    go_wp2_with fail
    refine (awake_any _ HTab.out).mono ?_
    rintro e w1 ⟨rfl, hu1⟩
    go_wp2_with fail
    refine (lines_any s _ (by omega) (HTab.out.up hu1)).mono ?_
    unfold RetLs
    rw [← HL.out, ← Hn.out]
    rintro e w2 ⟨A, c, rfl, _, hA, hu2⟩
    have HA := hide hA
    clear hA
    go_wp2
    go_loopw [4, 20] (fun v i wr => ∃ (k : Nat) (t : List Nat), i = .int .i64 k ∧ k ≤ n ∧ v = .string (bs t) ∧ Up w2 wr ∧ Hid (t = joinL (L.take k))) (fun _ i _ => n - (intOf i).toNat)
    case atStart => exact ⟨0, [], rfl, by omega, rfl, Up.refl _, rfl⟩
    case round =>
      obtain ⟨k, t, rfl, hk, rfl, hup, HT⟩ := hrel
      by_cases hlt : k < n
      · have hk1 : k < L.length := by rw [← Hn.out]; exact hlt
        obtain ⟨y, Hy⟩ : ∃ y, Hid (y = L.getD k []) := ⟨_, rfl⟩
        have hv := sb_get hk1
        rw [← Hy.out] at hv
        have HS : Hid (joinL (L.take (k + 1)) = t ++ (y ++ [10])) := by show _ = _; rw [Hy.out, HT.out]; exact joinL_take L k hk1
        have hl1 : (t ++ (y ++ [10])).length ≤ 2001 := by rw [← HS.out]; have := joinL_takeLen L (k + 1); omega
        simp only [List.length_append, List.length_cons, List.length_nil] at hl1
        obtain ⟨ad, hAd, hb, hcell⟩ := (HA.out.up hup).at_ hv
        have B10 : Hid ((⟨#[10]⟩ : ByteArray) = bs [10]) := rfl
        have f1 : ¬ 9223372036854775807 < (bs y).size + (⟨#[10]⟩ : ByteArray).size := by rw [bs_size]; show ¬ 9223372036854775807 < y.length + 1; omega
        have f2 : ¬ 9223372036854775807 < (bs t).size + (bs y ++ ⟨#[10]⟩).size := by rw [B10.out, bs_append]; exact fits _ _ 2001 2001 (by omega) (by simp; omega) (by omega)
        subst hAd
        clear hv
        go_wp2
        go_roundw
        case rel => exact ⟨k + 1, t ++ (y ++ [10]), by go_num, by omega, by rw [B10.out, bs_append, bs_append], hup, by show _ = _; rw [HS.out]⟩
        case measure => simp [intOf]; omega
      · obtain rfl : k = n := by omega
        have HT2 : Hid (t = joinL (lns (by_ s))) := by show _ = _; rw [HT.out, ← HL.out, Hn.out, List.take_length]
        by_cases h0 : s.size = 0
        · obtain ⟨e1, e2⟩ := toList_nil s h0
          have q := whole_eq s t HT2.out true (fun _ => rfl) (fun n hn => by omega)
          rw [e2] at q
          clear h0
          go_wp2_with fail
          refine (rlines_any s _ (by omega)).mono ?_
          unfold RetLs
          rw [← HL.out, ← Hn.out]
          rintro e w3 ⟨B, c', rfl, _, hB, hu3⟩
          go_wp2_with fail
          refine (strings_any A B k k _ _ L _ ((HA.out.up hup).up hu3) hB Hn Hn (by omega)).mono ?_
          rintro e w4 ⟨rfl, hu4⟩
          go_wp2
          go_ret
          exact ⟨rfl, (((hu1.trans hu2).trans hup).trans hu3).trans hu4⟩
        · obtain ⟨e1, e2⟩ := toList_ne s (by omega)
          obtain ⟨m, hm⟩ : ∃ m, s.size = m + 1 := ⟨s.size - 1, by omega⟩
          obtain ⟨x, Hx⟩ : ∃ x, Hid (x = (by_ s).getD m 0) := ⟨_, rfl⟩
          have hlt2 : m < s.size := by omega
          have hat : ((s[m]'hlt2).toNat : Int) = (x : Int) := by rw [u8_at s m hlt2, Hx.out]
          have hm2 : ((s.size : Int) - 1) = (m : Int) := by omega
          by_cases h10 : x = 10
          all_goals
            obtain ⟨b, Hb⟩ : ∃ b, Hid (b = ((x : Int) == 10)) := ⟨_, rfl⟩
            have q := whole_eq s t HT2.out b (fun h => by omega) (fun n hn => by
              obtain rfl : n = m := by omega
              rw [Hb.out, ← Hx.out, beq_iff_eq]
              omega)
            have Hb2 := Hb.out
            clear h10 h0
            go_wp2_with fail
            refine (rlines_any s _ (by omega)).mono ?_
            unfold RetLs
            rw [← HL.out, ← Hn.out]
            rintro e w3 ⟨B, c', rfl, _, hB, hu3⟩
            go_wp2_with fail
            refine (strings_any A B k k _ _ L _ ((HA.out.up hup).up hu3) hB Hn Hn (by omega)).mono ?_
            rintro e w4 ⟨rfl, hu4⟩
            go_wp2
            go_ret
            exact ⟨by simp, (((hu1.trans hu2).trans hup).trans hu3).trans hu4⟩
  · have d1 : decide ((2000 : Int) < s.size) = true := decide_eq_true (by omega)
    go_enter Tryd.func9, Tryd.ntmps9
    go_wp2_with fail
    refine (awake_any _ HTab.out).mono ?_
    rintro e w1 ⟨rfl, hu1⟩
    go_wp2_with fail
    refine (awake_any _ (HTab.out.up hu1)).mono ?_
    rintro e w2 ⟨rfl, hu2⟩
    go_wp2
    go_ret
    exact ⟨rfl, hu1.trans hu2⟩
set_option maxRecDepth 100000 in
set_option maxHeartbeats 4000000 in
theorem fieldsW (s : ByteArray) (w : World) (hTab : Tabs w) (hs : s.size ≤ 9223372036854775807) : Calls Tryd.prog 10 #[.string s] w (RetB w true) := by
  have HTab := hide hTab
  clear hTab
  by_cases h2 : s.size ≤ 2000
  · have d1 : decide ((2000 : Int) < s.size) = false := decide_eq_false (by omega)
    obtain ⟨L, HL⟩ : ∃ L, Hid (L = fld (by_ s)) := ⟨_, rfl⟩
    obtain ⟨n, Hn⟩ : ∃ n, Hid (n = L.length) := ⟨_, rfl⟩
    have hlen := fldG_len (by_ s) []
    rw [show fldG [] (by_ s) = L from HL.out.symm, by_len, ← Hn.out] at hlen
    obtain ⟨hj, hn⟩ := hlen
    simp only [List.length_nil] at hn hj
    go_enter Tryd.func10, Tryd.ntmps10
    go_wp2_with fail
    refine (awake_any _ HTab.out).mono ?_
    rintro e w1 ⟨rfl, hu1⟩
    go_wp2_with fail
    refine (fields_any s _ (by omega)).mono ?_
    unfold RetLs
    rw [← HL.out, ← Hn.out]
    rintro e w2 ⟨A, c, rfl, _, hA, hu2⟩
    have HA := hide hA
    clear hA
    go_wp2
    go_loopw [4, 19] (fun v i wr => ∃ (k : Nat) (t : List Nat), i = .int .i64 k ∧ k ≤ n ∧ v = .string (bs t) ∧ Up w2 wr ∧ Hid (t = 13 :: joinF (L.take k))) (fun _ i _ => n - (intOf i).toNat)
    case atStart => exact ⟨0, [13], rfl, by omega, rfl, Up.refl _, rfl⟩
    case round =>
      obtain ⟨k, t, rfl, hk, rfl, hup, HT⟩ := hrel
      by_cases hlt : k < n
      · have hk1 : k < L.length := by rw [← Hn.out]; exact hlt
        obtain ⟨y, Hy⟩ : ∃ y, Hid (y = L.getD k []) := ⟨_, rfl⟩
        have hv := sb_get hk1
        rw [← Hy.out] at hv
        have HS : Hid (13 :: joinF (L.take (k + 1)) = t ++ (y ++ [32, 9, 10])) := by show _ = _; rw [Hy.out, HT.out, joinF_take L k hk1]; rfl
        have hl1 : (t ++ (y ++ [32, 9, 10])).length ≤ 8001 := by rw [← HS.out, List.length_cons]; have := joinF_takeLen L (k + 1); omega
        simp only [List.length_append, List.length_cons, List.length_nil] at hl1
        obtain ⟨ad, hAd, hb, hcell⟩ := (HA.out.up hup).at_ hv
        have B10 : Hid ((⟨#[32, 9, 10]⟩ : ByteArray) = bs [32, 9, 10]) := rfl
        have f1 : ¬ 9223372036854775807 < (bs y).size + (⟨#[32, 9, 10]⟩ : ByteArray).size := by rw [bs_size]; show ¬ 9223372036854775807 < y.length + 3; omega
        have f2 : ¬ 9223372036854775807 < (bs t).size + (bs y ++ ⟨#[32, 9, 10]⟩).size := by rw [B10.out, bs_append]; exact fits _ _ 8001 8001 (by omega) (by simp; omega) (by omega)
        subst hAd
        clear hv
        go_wp2
        go_roundw
        case rel => exact ⟨k + 1, t ++ (y ++ [32, 9, 10]), by go_num, by omega, by rw [B10.out, bs_append, bs_append], hup, by show _ = _; rw [HS.out]⟩
        case measure => simp [intOf]; omega
      · obtain rfl : k = n := by omega
        have HT2 : Hid (t = 13 :: joinF (fld (by_ s))) := by show _ = _; rw [HT.out, ← HL.out, Hn.out, List.take_length]
        have hbt : Hid (by_ (bs t) = t) := by show _ = _; rw [HT2.out]; exact by_bs _ (joinF_lt _ (fldG_lt (by_ s) [] (by simp) (by_lt s)))
        have hft : Hid (fld (by_ (bs t)) = L) := by show _ = _; rw [hbt.out, HT2.out, fld_again, HL.out]
        have htl : (bs t).size ≤ 8001 := by rw [bs_size, HT2.out, ← HL.out, List.length_cons]; omega
        go_wp2_with fail
        refine (rfields_any s _ (by omega)).mono ?_
        unfold RetLs
        rw [← HL.out, ← Hn.out]
        rintro e w3 ⟨B, c', rfl, _, hB, hu3⟩
        go_wp2_with fail
        refine (strings_any A B k k _ _ L _ ((HA.out.up hup).up hu3) hB Hn Hn (by omega)).mono ?_
        rintro e w4 ⟨rfl, hu4⟩
        clear hB
        go_wp2_with fail
        refine (fields_any (bs t) _ (by omega)).mono ?_
        unfold RetLs
        rw [hft.out, ← Hn.out]
        rintro e w5 ⟨D, c'', rfl, _, hD, hu5⟩
        go_wp2_with fail
        refine (strings_any D A k k _ _ L _ hD (((HA.out.up hup).up (hu3.trans hu4)).up hu5) Hn Hn (by omega)).mono ?_
        rintro e w6 ⟨rfl, hu6⟩
        go_wp2
        go_ret
        exact ⟨rfl, (((((hu1.trans hu2).trans hup).trans hu3).trans hu4).trans hu5).trans hu6⟩
  · have d1 : decide ((2000 : Int) < s.size) = true := decide_eq_true (by omega)
    go_enter Tryd.func10, Tryd.ntmps10
    go_wp2_with fail
    refine (awake_any _ HTab.out).mono ?_
    rintro e w1 ⟨rfl, hu1⟩
    go_wp2_with fail
    refine (awake_any _ (HTab.out.up hu1)).mono ?_
    rintro e w2 ⟨rfl, hu2⟩
    go_wp2
    go_ret
    exact ⟨rfl, hu1.trans hu2⟩
end Go.Proofs.YtnhncakkbfjdjaaDoor
