/- The law on the words of tokens. -/
import Derived.Test.YtnhncakkbfjdjaaDoorVf
import Derived.Test.YtnhncakkbfjdjaaDoorVh
import Derived.Deep.RegionHeld3
namespace Go.Proofs.YtnhncakkbfjdjaaDoor
open Go.RowKit

theorem flat_ge (l : List Nat) : l.length ≤ (l.flatMap esc).length := by
  induction l with
  | nil => simp
  | cons c l ih => rw [List.flatMap_cons, List.length_append, List.length_cons]; have := esc_len c; omega
theorem good_facts (t : Tk) (h : Good t) : Fits t.int ∧ (∀ x ∈ t.str, x < 256) ∧ t.str.length ≤ (word t).length := by
  rcases h with ⟨c, r, rfl, _⟩ | ⟨v, rfl, hv⟩ | ⟨m, rfl, hm⟩ | ⟨c, rfl, _⟩
  · exact ⟨⟨by show _ ≤ (0 : Int); omega, by show (0 : Int) ≤ _; omega⟩, fun x hx => by simp at hx, Nat.zero_le _⟩
  · exact ⟨⟨by show _ ≤ (v : Int); omega, by show (v : Int) ≤ _; omega⟩, fun x hx => by simp at hx, Nat.zero_le _⟩
  · refine ⟨⟨by show _ ≤ (0 : Int); omega, by show (0 : Int) ≤ _; omega⟩, hm, ?_⟩
    rw [word_str, quo_len]
    have := flat_ge m
    show m.length ≤ _
    omega
  · exact ⟨⟨by show _ ≤ (0 : Int); omega, by show (0 : Int) ≤ _; omega⟩, fun x hx => by simp at hx, Nat.zero_le _⟩
theorem txtL_append (r : Nat) (a b : List Tk) : txtL r (a ++ b) = txtL r a ++ txtL r b := by unfold txtL; simp
theorem txtL_take (r : Nat) (L : List (Tk × Nat)) (k : Nat) (x : Tk × Nat) (h : L[k]? = some x) : txtL r ((L.take (k + 1)).map (·.1)) = txtL r ((L.take k).map (·.1)) ++ (word x.1 ++ sepL r) := by
  obtain ⟨hk, e⟩ := List.getElem?_eq_some_iff.1 h
  rw [List.take_succ_eq_append_getElem hk, e, List.map_append, txtL_append]
  simp [txtL]
theorem txtL_takeLen (r : Nat) (L : List (Tk × Nat)) (k : Nat) : (txtL r ((L.take k).map (·.1))).length ≤ (txtL r (L.map (·.1))).length := by
  conv => rhs; rw [← List.take_append_drop k L, List.map_append, txtL_append, List.length_append]
  omega
theorem word_lt (t : Tk) (h : Good t) : ∀ x ∈ word t, x < 256 := by
  intro x hx
  rcases h with ⟨c, r, rfl, hL, hr, _⟩ | ⟨v, rfl, hv⟩ | ⟨m, rfl, hm⟩ | ⟨c, rfl, hS⟩
  · exact (good_name (.inl ⟨c, r, rfl, hL, hr, by omega⟩) rfl).2 x hx
  · rw [word_int] at hx
    have := decN_dig v x hx
    unfold isD at this
    simp at this
    omega
  · exact quo_lt m hm x hx
  · have hx2 : x ∈ [c] := hx
    obtain rfl : x = c := by simpa using hx2
    unfold isS symL at hS
    simp at hS
    omega
theorem sepL_lt (r : Nat) : ∀ x ∈ sepL r, x < 256 := by
  unfold sepL
  intro x hx
  split at hx
  · simp at hx; omega
  · split at hx
    · simp at hx; omega
    · split at hx
      · simp at hx; omega
      · split at hx
        · simp at hx; omega
        · simp at hx; omega
theorem txtL_lt (r : Nat) (ts : List Tk) (h : ∀ t ∈ ts, Good t) : ∀ x ∈ txtL r ts, x < 256 := by
  intro x hx
  unfold txtL at hx
  rw [List.mem_flatMap] at hx
  obtain ⟨t, ht, hx⟩ := hx
  rcases List.mem_append.1 hx with hx | hx
  · exact word_lt t (h t ht) x hx
  · exact sepL_lt r x hx
theorem cell_news (w : World) (cs : Array Value) (t : TypeId) (r : Nat) (v : Value) (h : cs[r]? = some v) : (w.alloc (.cells cs t)).cell? ⟨w.heap.size, r, none⟩ = some v := by rw [World.cell?_alloc_new]; exact h
set_option maxRecDepth 100000 in
set_option maxHeartbeats 8000000 in
theorem wordsW (s : ByteArray) (sp : Int) (w : World) (hTab : Tabs w) (hs : s.size ≤ 9223372036854775807) (hsp : (Lit.int .u8 sp).wf = true) : Calls Tryd.prog 4 #[.string s, .int .u8 sp] w (RetB w true) := by
  have HTab := hide hTab
  clear hTab
  by_cases h2 : s.size ≤ 1000
  · have d1 : decide ((1000 : Int) < s.size) = false := decide_eq_false (by omega)
    match hx : toks (by_ s) 1 with
    | .inl n =>
      have HX := hide hx
      clear hx
      go_enter Tryd.func4, Tryd.ntmps4
      go_wp2_with fail
      refine (rtokens_any s _ (by omega)).mono ?_
      rw [HX.out]
      rintro e w1 ⟨rfl, hu1⟩
      go_wp2_with fail
      refine (awake_any _ (HTab.out.up hu1)).mono ?_
      rintro e w2 ⟨rfl, hu2⟩
      go_wp2_with fail
      refine (awake_any _ (HTab.out.up (hu1.trans hu2))).mono ?_
      rintro e w3 ⟨rfl, hu3⟩
      go_wp2
      go_ret
      exact ⟨rfl, (hu1.trans hu2).trans hu3⟩
    | .inr ts =>
      have HX := hide hx
      obtain ⟨r, Hr⟩ : ∃ r : Nat, Hid (sp.tmod 5 = (r : Int) ∧ r < 5) := by
        have h0 : 0 ≤ sp := by
          have m1 : IntKind.u8.min = 0 := rfl
          simp [Lit.wf] at hsp
          omega
        refine ⟨(sp % 5).toNat, ?_, by omega⟩
        rw [Int.tmod_eq_emod_of_nonneg h0]
        omega
      obtain ⟨hG, hlen, hn⟩ := toks_good r _ (by_ s) 1 ts (Nat.le_refl _) (by_lt s) hx
      rw [by_len] at hlen hn
      have HG := hide hG
      obtain ⟨n, Hn⟩ : ∃ n, Hid (n = ts.length) := ⟨_, rfl⟩
      obtain ⟨m, Hm⟩ : ∃ m, Hid (m = (txtL r (ts.map (·.1))).length) := ⟨_, rfl⟩
      rw [← Hm.out] at hlen
      rw [← Hn.out] at hn
      clear hx hG hsp
      go_enter Tryd.func4, Tryd.ntmps4
      go_wp2_with fail
      refine (rtokens_any s _ (by omega)).mono ?_
      rw [HX.out]
      intro e w1 hr
      obtain ⟨A, c, rfl, hc, hT, hu1⟩ := retU hr
      rw [show (tl (Sum.inr ts)) = ts from rfl, show lnO (Sum.inr ts) = 0 from rfl, show erO (Sum.inr ts) = 0 from rfl, ← Hn.out]
      rw [show (tl (Sum.inr ts)) = ts from rfl] at hT
      have HT := hide hT
      clear hc hT hr
      go_wp2_with fail
      refine (awake_any _ (HTab.out.up hu1)).mono ?_
      rintro e w2 ⟨rfl, hu2⟩
      go_wp2
      go_loopw [8, 34] (fun v i wr => ∃ (k : Nat) (t : List Nat), i = .int .i64 k ∧ k ≤ n ∧ v = .string (bs t) ∧ Up w2 wr ∧ Hid (t = txtL r ((ts.take k).map (·.1)))) (fun _ i _ => n - (intOf i).toNat)
      case atStart => exact ⟨0, [], rfl, by omega, rfl, Up.refl _, rfl⟩
      case round =>
        obtain ⟨k, t, rfl, hk, rfl, hup, HL⟩ := hrel
        by_cases hlt : k < n
        · have hk1 : k < ts.length := by rw [← Hn.out]; exact hlt
          obtain ⟨⟨⟨kd, tx, nn, st⟩, ln⟩, hxk⟩ : ∃ x, ts[k]? = some x := ⟨_, List.getElem?_eq_getElem hk1⟩
          have hGk : Good ⟨kd, tx, nn, st⟩ := HG.out _ (List.mem_of_getElem? hxk)
          obtain ⟨hF, hst, hstl⟩ := good_facts _ hGk
          have HS : Hid (txtL r ((ts.take (k + 1)).map (·.1)) = t ++ (word ⟨kd, tx, nn, st⟩ ++ sepL r)) := by show _ = _; rw [HL.out]; exact txtL_take r ts k _ hxk
          have hl1 : (t ++ (word ⟨kd, tx, nn, st⟩ ++ sepL r)).length ≤ m := by rw [← HS.out, Hm.out]; exact txtL_takeLen r ts (k + 1)
          obtain ⟨y, Hy⟩ : ∃ y, Hid (y = word ⟨kd, tx, nn, st⟩) := ⟨_, rfl⟩
          rw [← Hy.out] at HS hl1 hstl
          simp only [List.length_append] at hl1
          have hstl2 : st.length ≤ y.length := hstl
          have HW : Hid (wordB kd (bs tx) nn (bs st) = bs y) := by show _ = _; rw [Hy.out]; exact wordB_tk ⟨kd, tx, nn, st⟩ hst
          obtain ⟨g, hAg, g0, g1, g2, g3, g4⟩ := ((HT.out.up hu2).up hup) k _ hxk
          replace g0 : wr.cell? ⟨g, k * 5, none⟩ = some (.int .i64 (kd : Int)) := g0
          replace g1 : wr.cell? ⟨g, k * 5 + 1, none⟩ = some (.string (bs tx)) := g1
          replace g2 : wr.cell? ⟨g, k * 5 + 2, none⟩ = some (.int .i64 nn) := g2
          replace g3 : wr.cell? ⟨g, k * 5 + 3, none⟩ = some (.string (bs st)) := g3
          replace g4 : wr.cell? ⟨g, k * 5 + 4, none⟩ = some (.int .i64 (ln : Int)) := g4
          subst hAg
          have hF2 : Fits nn := hF
          clear hxk hGk hst hstl hF
          go_wp2_with fail
          obtain ⟨wa, hwa⟩ : ∃ x, x = wr.alloc (.cells #[.int .i64 (kd : Int), .string (bs tx), .int .i64 nn, .string (bs st), .int .i64 (ln : Int)] 30) := ⟨_, rfl⟩
          have c0 : wa.cell? ⟨wr.heap.size, 0, none⟩ = some (.int .i64 (kd : Int)) := by rw [hwa]; exact cell_news _ _ _ _ _ rfl
          have c1 : wa.cell? ⟨wr.heap.size, 1, none⟩ = some (.string (bs tx)) := by rw [hwa]; exact cell_news _ _ _ _ _ rfl
          have c2 : wa.cell? ⟨wr.heap.size, 2, none⟩ = some (.int .i64 nn) := by rw [hwa]; exact cell_news _ _ _ _ _ rfl
          have c3 : wa.cell? ⟨wr.heap.size, 3, none⟩ = some (.string (bs st)) := by rw [hwa]; exact cell_news _ _ _ _ _ rfl
          have c4 : wa.cell? ⟨wr.heap.size, 4, none⟩ = some (.int .i64 (ln : Int)) := by rw [hwa]; exact cell_news _ _ _ _ _ rfl
          have hua : Up wr wa := by rw [hwa]; exact (Up.refl wr).alloc _
          rw [← hwa]
          clear hwa g0 g1 g2 g3 g4
          have HT2 : Hid (Tabs wa) := HTab.out.up (((hu1.trans hu2).trans hup).trans hua)
          have hupA : Up wa wa.drew := (Up.refl wa).drew
          have hbst : (bs st).size ≤ 100000 := by rw [bs_size]; omega
          have hr5 : r = 0 ∨ r = 1 ∨ r = 2 ∨ r = 3 ∨ r = 4 := by have := Hr.out.2; omega
          have e5 := Hr.out.1
          rcases hr5 with rfl | rfl | rfl | rfl | rfl
          · have B : Hid ((⟨#[32]⟩ : ByteArray) = bs (sepL 0)) := rfl
            have hsl : (sepL 0).length = 1 := rfl
            have f1 : ¬ 9223372036854775807 < (bs y).size + (⟨#[32]⟩ : ByteArray).size := by rw [bs_size]; show ¬ 9223372036854775807 < y.length + 1; omega
            have f2 : ¬ 9223372036854775807 < (bs t).size + (bs y ++ ⟨#[32]⟩).size := by rw [B.out, bs_append]; exact fits _ _ 30000 30010 (by omega) (by rw [List.length_append]; omega) (by omega)
            have f3 : ¬ 9223372036854775807 < (bs t).size + ((bs y).size + (⟨#[32]⟩ : ByteArray).size) := by rw [bs_size, bs_size]; show ¬ 9223372036854775807 < t.length + (y.length + 1); omega
            have f4 : ¬ 9223372036854775807 < (bs t).size + ((bs y).size + 1) := by rw [bs_size, bs_size]; omega
            have hszA : wr.heap.size < wa.heap.size := cell_lt c0
            go_region_with
              (first
                | (go_at_call 15; refine (word_any (kd : Int) (bs tx) nn (bs st) (ln : Int) _ ?_ hbst hF2).mono ?_; (first | exact HT2.out.up hupA | exact HT2.out.up (hupA.alloc _)); rw [HW.out]; rintro e w3 ⟨rfl, hup2⟩; (first | replace hupA := hupA.trans hup2 | replace hupA := (hupA.alloc _).trans hup2); (try have cn := up_keep hup2 (cell_news _ _ _ 0 _ rfl))))
            all_goals
              go_wp2
              go_roundw
              case rel => exact ⟨k + 1, t ++ (y ++ sepL 0), by go_num, by omega, by rw [B.out, bs_append, bs_append], by first | exact (hup.trans hua).trans hupA | exact ((hup.trans hua).trans hupA).alloc _, by show _ = _; rw [HS.out]⟩
              case measure => simp [intOf]; omega
          · have B : Hid ((⟨#[10]⟩ : ByteArray) = bs (sepL 1)) := rfl
            have hsl : (sepL 1).length = 1 := rfl
            have f1 : ¬ 9223372036854775807 < (bs y).size + (⟨#[10]⟩ : ByteArray).size := by rw [bs_size]; show ¬ 9223372036854775807 < y.length + 1; omega
            have f2 : ¬ 9223372036854775807 < (bs t).size + (bs y ++ ⟨#[10]⟩).size := by rw [B.out, bs_append]; exact fits _ _ 30000 30010 (by omega) (by rw [List.length_append]; omega) (by omega)
            have f3 : ¬ 9223372036854775807 < (bs t).size + ((bs y).size + (⟨#[10]⟩ : ByteArray).size) := by rw [bs_size, bs_size]; show ¬ 9223372036854775807 < t.length + (y.length + 1); omega
            have f4 : ¬ 9223372036854775807 < (bs t).size + ((bs y).size + 1) := by rw [bs_size, bs_size]; omega
            have hszA : wr.heap.size < wa.heap.size := cell_lt c0
            go_region_with
              (first
                | (go_at_call 15; refine (word_any (kd : Int) (bs tx) nn (bs st) (ln : Int) _ ?_ hbst hF2).mono ?_; (first | exact HT2.out.up hupA | exact HT2.out.up (hupA.alloc _)); rw [HW.out]; rintro e w3 ⟨rfl, hup2⟩; (first | replace hupA := hupA.trans hup2 | replace hupA := (hupA.alloc _).trans hup2); (try have cn := up_keep hup2 (cell_news _ _ _ 1 _ rfl))))
            all_goals
              go_wp2
              go_roundw
              case rel => exact ⟨k + 1, t ++ (y ++ sepL 1), by go_num, by omega, by rw [B.out, bs_append, bs_append], by first | exact (hup.trans hua).trans hupA | exact ((hup.trans hua).trans hupA).alloc _, by show _ = _; rw [HS.out]⟩
              case measure => simp [intOf]; omega
          · have B : Hid ((⟨#[9, 13]⟩ : ByteArray) = bs (sepL 2)) := rfl
            have hsl : (sepL 2).length = 2 := rfl
            have f1 : ¬ 9223372036854775807 < (bs y).size + (⟨#[9, 13]⟩ : ByteArray).size := by rw [bs_size]; show ¬ 9223372036854775807 < y.length + 2; omega
            have f2 : ¬ 9223372036854775807 < (bs t).size + (bs y ++ ⟨#[9, 13]⟩).size := by rw [B.out, bs_append]; exact fits _ _ 30000 30010 (by omega) (by rw [List.length_append]; omega) (by omega)
            have f3 : ¬ 9223372036854775807 < (bs t).size + ((bs y).size + (⟨#[9, 13]⟩ : ByteArray).size) := by rw [bs_size, bs_size]; show ¬ 9223372036854775807 < t.length + (y.length + 2); omega
            have f4 : ¬ 9223372036854775807 < (bs t).size + ((bs y).size + 2) := by rw [bs_size, bs_size]; omega
            have hszA : wr.heap.size < wa.heap.size := cell_lt c0
            go_region_with
              (first
                | (go_at_call 15; refine (word_any (kd : Int) (bs tx) nn (bs st) (ln : Int) _ ?_ hbst hF2).mono ?_; (first | exact HT2.out.up hupA | exact HT2.out.up (hupA.alloc _)); rw [HW.out]; rintro e w3 ⟨rfl, hup2⟩; (first | replace hupA := hupA.trans hup2 | replace hupA := (hupA.alloc _).trans hup2); (try have cn := up_keep hup2 (cell_news _ _ _ 2 _ rfl))))
            all_goals
              go_wp2
              go_roundw
              case rel => exact ⟨k + 1, t ++ (y ++ sepL 2), by go_num, by omega, by rw [B.out, bs_append, bs_append], by first | exact (hup.trans hua).trans hupA | exact ((hup.trans hua).trans hupA).alloc _, by show _ = _; rw [HS.out]⟩
              case measure => simp [intOf]; omega
          · have B : Hid ((⟨#[32, 47, 47, 32, 34, 10]⟩ : ByteArray) = bs (sepL 3)) := rfl
            have hsl : (sepL 3).length = 6 := rfl
            have f1 : ¬ 9223372036854775807 < (bs y).size + (⟨#[32, 47, 47, 32, 34, 10]⟩ : ByteArray).size := by rw [bs_size]; show ¬ 9223372036854775807 < y.length + 6; omega
            have f2 : ¬ 9223372036854775807 < (bs t).size + (bs y ++ ⟨#[32, 47, 47, 32, 34, 10]⟩).size := by rw [B.out, bs_append]; exact fits _ _ 30000 30010 (by omega) (by rw [List.length_append]; omega) (by omega)
            have f3 : ¬ 9223372036854775807 < (bs t).size + ((bs y).size + (⟨#[32, 47, 47, 32, 34, 10]⟩ : ByteArray).size) := by rw [bs_size, bs_size]; show ¬ 9223372036854775807 < t.length + (y.length + 6); omega
            have f4 : ¬ 9223372036854775807 < (bs t).size + ((bs y).size + 6) := by rw [bs_size, bs_size]; omega
            have hszA : wr.heap.size < wa.heap.size := cell_lt c0
            go_region_with
              (first
                | (go_at_call 15; refine (word_any (kd : Int) (bs tx) nn (bs st) (ln : Int) _ ?_ hbst hF2).mono ?_; (first | exact HT2.out.up hupA | exact HT2.out.up (hupA.alloc _)); rw [HW.out]; rintro e w3 ⟨rfl, hup2⟩; (first | replace hupA := hupA.trans hup2 | replace hupA := (hupA.alloc _).trans hup2); (try have cn := up_keep hup2 (cell_news _ _ _ 3 _ rfl))))
            all_goals
              go_wp2
              go_roundw
              case rel => exact ⟨k + 1, t ++ (y ++ sepL 3), by go_num, by omega, by rw [B.out, bs_append, bs_append], by first | exact (hup.trans hua).trans hupA | exact ((hup.trans hua).trans hupA).alloc _, by show _ = _; rw [HS.out]⟩
              case measure => simp [intOf]; omega
          · have B : Hid ((⟨#[32, 47, 47, 10]⟩ : ByteArray) = bs (sepL 4)) := rfl
            have hsl : (sepL 4).length = 4 := rfl
            have f1 : ¬ 9223372036854775807 < (bs y).size + (⟨#[32, 47, 47, 10]⟩ : ByteArray).size := by rw [bs_size]; show ¬ 9223372036854775807 < y.length + 4; omega
            have f2 : ¬ 9223372036854775807 < (bs t).size + (bs y ++ ⟨#[32, 47, 47, 10]⟩).size := by rw [B.out, bs_append]; exact fits _ _ 30000 30010 (by omega) (by rw [List.length_append]; omega) (by omega)
            have f3 : ¬ 9223372036854775807 < (bs t).size + ((bs y).size + (⟨#[32, 47, 47, 10]⟩ : ByteArray).size) := by rw [bs_size, bs_size]; show ¬ 9223372036854775807 < t.length + (y.length + 4); omega
            have f4 : ¬ 9223372036854775807 < (bs t).size + ((bs y).size + 4) := by rw [bs_size, bs_size]; omega
            have hszA : wr.heap.size < wa.heap.size := cell_lt c0
            go_region_with
              (first
                | (go_at_call 15; refine (word_any (kd : Int) (bs tx) nn (bs st) (ln : Int) _ ?_ hbst hF2).mono ?_; (first | exact HT2.out.up hupA | exact HT2.out.up (hupA.alloc _)); rw [HW.out]; rintro e w3 ⟨rfl, hup2⟩; (first | replace hupA := hupA.trans hup2 | replace hupA := (hupA.alloc _).trans hup2); (try have cn := up_keep hup2 (cell_news _ _ _ 4 _ rfl))))
            all_goals
              go_wp2
              go_roundw
              case rel => exact ⟨k + 1, t ++ (y ++ sepL 4), by go_num, by omega, by rw [B.out, bs_append, bs_append], by first | exact (hup.trans hua).trans hupA | exact ((hup.trans hua).trans hupA).alloc _, by show _ = _; rw [HS.out]⟩
              case measure => simp [intOf]; omega
        · obtain rfl : k = n := by omega
          have HL2 : Hid (t = txtL r (ts.map (·.1))) := by show _ = _; rw [HL.out, Hn.out, List.take_length]
          have hgood : ∀ u ∈ ts.map (·.1), Good u := by
            intro u hu
            obtain ⟨x, hx, rfl⟩ := List.mem_map.1 hu
            exact HG.out x hx
          have htl : (bs t).size ≤ 30000 := by rw [bs_size, HL2.out, ← Hm.out]; omega
          obtain ⟨us, hus, hmap⟩ := toks_words r (ts.map (·.1)) 1 hgood
          have HU : Hid (toks (by_ (bs t)) 1 = .inr us) := by show _ = _; rw [HL2.out, by_bs _ (txtL_lt r _ hgood)]; exact hus
          have Hll : Hid (ts.map (·.1) = us.map (·.1)) := hmap.symm
          have Hn2 : Hid (k = us.length) := by show _ = _; have := congrArg List.length hmap; rw [List.length_map, List.length_map] at this; rw [Hn.out, this]
          clear hus hmap hgood
          go_wp2_with fail
          refine (tokens_any (bs t) _ (by omega) (HTab.out.up ((hu1.trans hu2).trans hup))).mono ?_
          rw [HU.out]
          intro e w3 hr
          obtain ⟨B, c', rfl, hc, hB, hu3⟩ := retU hr
          rw [show (tl (Sum.inr us)) = us from rfl, show lnO (Sum.inr us) = 0 from rfl, show erO (Sum.inr us) = 0 from rfl, ← Hn2.out]
          rw [show (tl (Sum.inr us)) = us from rfl] at hB
          have HB := hide hB
          clear hc hB hr
          go_wp2_with fail
          refine (same_words A B k k _ _ ts us _ (((HT.out.up hu2).up hup).up hu3) HB.out Hn Hn2 Hll (by omega)).mono ?_
          rintro e w4 ⟨rfl, hu4⟩
          go_wp2
          go_ret
          exact ⟨rfl, (((hu1.trans hu2).trans hup).trans hu3).trans hu4⟩
  · have d1 : decide ((1000 : Int) < s.size) = true := decide_eq_true (by omega)
    by_cases h3 : s.size ≤ 65536
    · go_enter Tryd.func4, Tryd.ntmps4
      go_wp2_with fail
      refine (rtokens_any s _ (by omega)).mono ?_
      intro e w1 hr
      obtain ⟨A, c, rfl, hc, hT, hu1⟩ := retU hr
      clear hr hT hc
      go_wp2_with fail
      refine (awake_any _ (HTab.out.up hu1)).mono ?_
      rintro e w2 ⟨rfl, hu2⟩
      go_wp2_with fail
      refine (awake_any _ (HTab.out.up (hu1.trans hu2))).mono ?_
      rintro e w3 ⟨rfl, hu3⟩
      go_wp2
      go_ret
      exact ⟨rfl, (hu1.trans hu2).trans hu3⟩
    · go_enter Tryd.func4, Tryd.ntmps4
      go_wp2_with fail
      refine (rtokens_big s _ (by omega)).mono ?_
      rintro e w1 ⟨rfl, hu1⟩
      go_wp2_with fail
      refine (awake_any _ (HTab.out.up hu1)).mono ?_
      rintro e w2 ⟨rfl, hu2⟩
      go_wp2_with fail
      refine (awake_any _ (HTab.out.up (hu1.trans hu2))).mono ?_
      rintro e w3 ⟨rfl, hu3⟩
      go_wp2
      go_ret
      exact ⟨rfl, (hu1.trans hu2).trans hu3⟩
end Go.Proofs.YtnhncakkbfjdjaaDoor
