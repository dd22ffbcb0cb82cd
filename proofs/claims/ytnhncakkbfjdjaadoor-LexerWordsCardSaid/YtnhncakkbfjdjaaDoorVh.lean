/- The law on names. -/
import Derived.Test.YtnhncakkbfjdjaaDoorVe
namespace Go.Proofs.YtnhncakkbfjdjaaDoor
open Go.RowKit

theorem nam_toks (l : List Nat) (h : nam l = true) : toks l 1 = .inr [(⟨1, l, 0, []⟩, 1)] := by
  have hk : (whl l).kind = 1 := by unfold nam at h; simpa using h
  have hlt : ¬ (tok l).2 < l.length := by
    intro h2
    rw [whl_lt l h2] at hk
    cases hk
  have he := whl_eq l hlt
  rw [he] at hk
  rcases tok_cases l with h0 | ⟨c, r, rfl, hL, h24, e⟩ | ⟨c, r, v, rfl, hL, hD, hv, e⟩ | ⟨r, m, k, rfl, hm, e⟩ | ⟨c, r, rfl, hS, e⟩
  · rw [← he, whl_zero l h0] at hk
    cases hk
  · have hB : Begins (c :: r) := ⟨by simp, by simpa using (let_not hL).1, fun hh => (let_not hL).2 (by simpa using hh.1)⟩
    have hle := cnt_le isLD (c :: r)
    have hcnt : cnt isLD (c :: r) = (c :: r).length := by
      rw [e] at hlt
      have h3 : ¬ cnt isLD (c :: r) < (c :: r).length := hlt
      omega
    rw [toks_tok _ _ hB (by rw [e]; show cnt isLD (c :: r) ≠ 0; rw [hcnt]; simp), e]
    show preL [(⟨1, (c :: r).take (cnt isLD (c :: r)), 0, []⟩, 1)] (toks ((c :: r).drop (cnt isLD (c :: r))) 1) = _
    rw [hcnt, List.take_length, List.drop_length, toks_nil]
    rfl
  · rw [e] at hk; cases hk
  · rw [e] at hk; cases hk
  · rw [e] at hk; cases hk
theorem one_good (l : List Nat) (hl : ∀ x ∈ l, x < 256) (ts : List (Tk × Nat)) (h : toks l 1 = .inr ts) : ∀ t ∈ ts, Good t.1 := (toks_good 0 _ l 1 ts (Nat.le_refl _) hl h).1
theorem good_name {kd : Nat} {tx : List Nat} {nn : Int} {st : List Nat} (h : Good ⟨kd, tx, nn, st⟩) (hk : kd = 1) : nam tx = true ∧ ∀ x ∈ tx, x < 256 := by
  subst hk
  rcases h with ⟨c, r, e, hL, hr, h24⟩ | ⟨v, e, _⟩ | ⟨m, e, _⟩ | ⟨c, e, _⟩
  · injection e with _ e
    subst e
    have hall : ∀ x ∈ c :: r, isLD x = true := by
      intro x hx
      rcases List.mem_cons.1 hx with rfl | hx
      · exact isL_LD hL
      · exact hr x hx
    refine ⟨?_, fun x hx => ?_⟩
    · rw [nam_eq]
      show (isL c && decide (cnt isLD (c :: r) = (c :: r).length) && decide ((c :: r).length ≤ 24)) = true
      rw [hL, decide_eq_true (cnt_all isLD (c :: r) hall), decide_eq_true (by simpa using h24)]
      rfl
    · have := hall x hx
      unfold isLD isL isD at this
      simp at this
      omega
  · injection e with e _; cases e
  · injection e with e _; cases e
  · injection e with e _; cases e
theorem text_ne (s : ByteArray) (tx : List Nat) (ht : ∀ x ∈ tx, x < 256) (h : tx ≠ by_ s) : ((bs tx).toList == s.toList) = false := by
  rw [beq_eq_false_iff_ne]
  intro e
  refine h ?_
  rw [Lib.toList_data, Lib.toList_data] at e
  rw [← by_bs tx ht]
  unfold by_
  rw [e]
set_option maxRecDepth 100000 in
set_option maxHeartbeats 4000000 in
theorem namesW (s : ByteArray) (w : World) (hTab : Tabs w) (hs : s.size ≤ 9223372036854775807) : Calls Tryd.prog 8 #[.string s] w (RetB w true) := by
  have HTab := hide hTab
  clear hTab
  by_cases h2 : s.size ≤ 100
  · have d1 : decide ((100 : Int) < s.size) = false := decide_eq_false (by omega)
    by_cases hN : nam (by_ s) = true
    · have HN : Hid (nam (by_ s) = true) := hN
      have HX : Hid (toks (by_ s) 1 = .inr [(⟨1, by_ s, 0, []⟩, 1)]) := nam_toks _ hN
      clear hN
      have q : (s.toList == s.toList) = true := by simp
      go_enter Tryd.func8, Tryd.ntmps8
      go_wp2_with fail
      refine (awake_any _ HTab.out).mono ?_
      rintro e w1 ⟨rfl, hu1⟩
      go_wp2_with fail
      refine (tokens_any s _ (by omega) (HTab.out.up hu1)).mono ?_
      rw [HX.out]
      intro e w2 hr
      obtain ⟨A, c, rfl, hc, hT, hu2⟩ := retU hr
      clear hr
      obtain ⟨g, hA, g0, g1, g2, g3, g4⟩ := hT 0 _ rfl
      subst hA
      clear hT hc
      replace g0 : w2.cell? ⟨g, 0, none⟩ = some (.int .i64 1) := g0
      replace g1 : w2.cell? ⟨g, 1, none⟩ = some (.string (bs (by_ s))) := g1
      rw [bs_by] at g1
      clear g2 g3 g4
      go_wp2_with fail
      refine (isName_any s _ (HTab.out.up (hu1.trans hu2)) (by omega)).mono ?_
      rw [HN.out]
      rintro e w3 ⟨rfl, hu3⟩
      go_wp2_with fail
      refine (risName_any s _ (by omega)).mono ?_
      rw [HN.out]
      rintro e w4 ⟨rfl, rfl⟩
      go_wp2_with fail
      refine (isName_any s _ (HTab.out.up ((hu1.trans hu2).trans hu3)) (by omega)).mono ?_
      rw [HN.out]
      rintro e w5 ⟨rfl, hu5⟩
      go_wp2
      go_ret
      exact ⟨rfl, ((hu1.trans hu2).trans hu3).trans hu5⟩
    · have HN : Hid (nam (by_ s) = false) := by show _ = false; simpa using hN
      match hx : toks (by_ s) 1 with
      | .inl n =>
        have HX := hide hx
        clear hx hN
        go_enter Tryd.func8, Tryd.ntmps8
        go_wp2_with fail
        refine (awake_any _ HTab.out).mono ?_
        rintro e w1 ⟨rfl, hu1⟩
        go_wp2_with fail
        refine (tokens_any s _ (by omega) (HTab.out.up hu1)).mono ?_
        rw [HX.out]
        intro e w2 hr
        obtain ⟨A, c, rfl, hc, hT, hu2⟩ := retU hr
        clear hr
        rw [show (tl (Sum.inl n)) = [] from rfl, show lnO (Sum.inl n) = n from rfl, show erO (Sum.inl n) = 2 from rfl]
        clear hT hc
        go_wp2_with fail
        refine (isName_any s _ (HTab.out.up (hu1.trans hu2)) (by omega)).mono ?_
        rw [HN.out]
        rintro e w3 ⟨rfl, hu3⟩
        go_wp2_with fail
        refine (risName_any s _ (by omega)).mono ?_
        rw [HN.out]
        rintro e w4 ⟨rfl, rfl⟩
        go_wp2_with fail
        refine (isName_any s _ (HTab.out.up ((hu1.trans hu2).trans hu3)) (by omega)).mono ?_
        rw [HN.out]
        rintro e w5 ⟨rfl, hu5⟩
        go_wp2
        go_ret
        exact ⟨rfl, ((hu1.trans hu2).trans hu3).trans hu5⟩
      | .inr [] =>
        have HX := hide hx
        clear hx hN
        go_enter Tryd.func8, Tryd.ntmps8
        go_wp2_with fail
        refine (awake_any _ HTab.out).mono ?_
        rintro e w1 ⟨rfl, hu1⟩
        go_wp2_with fail
        refine (tokens_any s _ (by omega) (HTab.out.up hu1)).mono ?_
        rw [HX.out]
        intro e w2 hr
        obtain ⟨A, c, rfl, hc, hT, hu2⟩ := retU hr
        clear hr
        rw [show (tl (Sum.inr [])) = [] from rfl, show lnO (Sum.inr []) = 0 from rfl, show erO (Sum.inr []) = 0 from rfl]
        clear hT hc
        go_wp2_with fail
        refine (isName_any s _ (HTab.out.up (hu1.trans hu2)) (by omega)).mono ?_
        rw [HN.out]
        rintro e w3 ⟨rfl, hu3⟩
        go_wp2_with fail
        refine (risName_any s _ (by omega)).mono ?_
        rw [HN.out]
        rintro e w4 ⟨rfl, rfl⟩
        go_wp2_with fail
        refine (isName_any s _ (HTab.out.up ((hu1.trans hu2).trans hu3)) (by omega)).mono ?_
        rw [HN.out]
        rintro e w5 ⟨rfl, hu5⟩
        go_wp2
        go_ret
        exact ⟨rfl, ((hu1.trans hu2).trans hu3).trans hu5⟩
      | .inr [(⟨kd, tx, nn, st⟩, ln)] =>
        have HX := hide hx
        have hG : Good ⟨kd, tx, nn, st⟩ := one_good (by_ s) (by_lt s) _ hx (⟨kd, tx, nn, st⟩, ln) (List.mem_singleton.2 rfl)
        by_cases hk : kd = 1
        · obtain ⟨h3, h4⟩ := good_name hG hk
          have q := text_ne s tx h4 (fun h => hN (by rw [← h]; exact h3))
          subst hk
          clear hx hN hG h3 h4
          go_enter Tryd.func8, Tryd.ntmps8
          go_wp2_with fail
          refine (awake_any _ HTab.out).mono ?_
          rintro e w1 ⟨rfl, hu1⟩
          go_wp2_with fail
          refine (tokens_any s _ (by omega) (HTab.out.up hu1)).mono ?_
          rw [HX.out]
          intro e w2 hr
          obtain ⟨A, c, rfl, hc, hT, hu2⟩ := retU hr
          clear hr
          obtain ⟨g, hA, g0, g1, g2, g3, g4⟩ := hT 0 _ rfl
          subst hA
          clear hT hc
          replace g0 : w2.cell? ⟨g, 0, none⟩ = some (.int .i64 1) := g0
          replace g1 : w2.cell? ⟨g, 1, none⟩ = some (.string (bs tx)) := g1
          clear g2 g3 g4
          go_wp2_with fail
          refine (isName_any s _ (HTab.out.up (hu1.trans hu2)) (by omega)).mono ?_
          rw [HN.out]
          rintro e w3 ⟨rfl, hu3⟩
          go_wp2_with fail
          refine (risName_any s _ (by omega)).mono ?_
          rw [HN.out]
          rintro e w4 ⟨rfl, rfl⟩
          go_wp2_with fail
          refine (isName_any s _ (HTab.out.up ((hu1.trans hu2).trans hu3)) (by omega)).mono ?_
          rw [HN.out]
          rintro e w5 ⟨rfl, hu5⟩
          go_wp2
          go_ret
          exact ⟨rfl, ((hu1.trans hu2).trans hu3).trans hu5⟩
        · have q : ((kd : Int) == 1) = false := by rw [beq_eq_false_iff_ne]; omega
          clear hx hN hG hk
          go_enter Tryd.func8, Tryd.ntmps8
          go_wp2_with fail
          refine (awake_any _ HTab.out).mono ?_
          rintro e w1 ⟨rfl, hu1⟩
          go_wp2_with fail
          refine (tokens_any s _ (by omega) (HTab.out.up hu1)).mono ?_
          rw [HX.out]
          intro e w2 hr
          obtain ⟨A, c, rfl, hc, hT, hu2⟩ := retU hr
          clear hr
          obtain ⟨g, hA, g0, g1, g2, g3, g4⟩ := hT 0 _ rfl
          subst hA
          clear hT hc
          replace g0 : w2.cell? ⟨g, 0, none⟩ = some (.int .i64 (kd : Int)) := g0
          replace g1 : w2.cell? ⟨g, 1, none⟩ = some (.string (bs tx)) := g1
          clear g2 g3 g4
          go_wp2_with fail
          refine (isName_any s _ (HTab.out.up (hu1.trans hu2)) (by omega)).mono ?_
          rw [HN.out]
          rintro e w3 ⟨rfl, hu3⟩
          go_wp2_with fail
          refine (risName_any s _ (by omega)).mono ?_
          rw [HN.out]
          rintro e w4 ⟨rfl, rfl⟩
          go_wp2_with fail
          refine (isName_any s _ (HTab.out.up ((hu1.trans hu2).trans hu3)) (by omega)).mono ?_
          rw [HN.out]
          rintro e w5 ⟨rfl, hu5⟩
          go_wp2
          go_ret
          exact ⟨rfl, ((hu1.trans hu2).trans hu3).trans hu5⟩
      | .inr (a :: b :: ts) =>
        have HX := hide hx
        have hlen := tl_len (by_ s) (by_lt s)
        rw [hx, by_len] at hlen
        obtain ⟨n, Hn⟩ : ∃ n, Hid (n = (tl (Sum.inr (a :: b :: ts) : Nat ⊕ List (Tk × Nat))).length) := ⟨_, rfl⟩
        have q : ((n : Int) == 1) = false := by rw [beq_eq_false_iff_ne, Hn.out]; show ¬ (((ts.length + 1 + 1 : Nat) : Int) = 1); omega
        rw [← Hn.out] at hlen
        clear hx hN
        go_enter Tryd.func8, Tryd.ntmps8
        go_wp2_with fail
        refine (awake_any _ HTab.out).mono ?_
        rintro e w1 ⟨rfl, hu1⟩
        go_wp2_with fail
        refine (tokens_any s _ (by omega) (HTab.out.up hu1)).mono ?_
        rw [HX.out]
        intro e w2 hr
        obtain ⟨A, c, rfl, hc, hT, hu2⟩ := retU hr
        clear hr
        rw [← Hn.out, show lnO (Sum.inr (a :: b :: ts)) = 0 from rfl, show erO (Sum.inr (a :: b :: ts)) = 0 from rfl]
        clear hT hc
        go_wp2_with fail
        refine (isName_any s _ (HTab.out.up (hu1.trans hu2)) (by omega)).mono ?_
        rw [HN.out]
        rintro e w3 ⟨rfl, hu3⟩
        go_wp2_with fail
        refine (risName_any s _ (by omega)).mono ?_
        rw [HN.out]
        rintro e w4 ⟨rfl, rfl⟩
        go_wp2_with fail
        refine (isName_any s _ (HTab.out.up ((hu1.trans hu2).trans hu3)) (by omega)).mono ?_
        rw [HN.out]
        rintro e w5 ⟨rfl, hu5⟩
        go_wp2
        go_ret
        exact ⟨rfl, ((hu1.trans hu2).trans hu3).trans hu5⟩
  · have d1 : decide ((100 : Int) < s.size) = true := decide_eq_true (by omega)
    go_enter Tryd.func8, Tryd.ntmps8
    go_wp2_with fail
    refine (awake_any _ HTab.out).mono ?_
    rintro e w1 ⟨rfl, hu1⟩
    go_wp2_with fail
    refine (awake_any _ (HTab.out.up hu1)).mono ?_
    rintro e w2 ⟨rfl, hu2⟩
    go_wp2
    go_ret
    exact ⟨rfl, hu1.trans hu2⟩
end Go.Proofs.YtnhncakkbfjdjaaDoor
