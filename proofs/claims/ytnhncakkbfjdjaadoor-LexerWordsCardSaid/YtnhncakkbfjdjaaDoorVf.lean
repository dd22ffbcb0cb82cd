/- The law on the literal of a string. -/
import Derived.Test.YtnhncakkbfjdjaaDoorVe
namespace Go.Proofs.YtnhncakkbfjdjaaDoor
open Go.RowKit

theorem tks_new (w : World) (x : Tk × Nat) (cs : Array Value) (t : TypeId) (hcs : cs = (tkcs x).toArray) : Tks (w.alloc (.cells cs t)) (some ⟨w.heap.size, 0, none⟩) [x] := by
  intro i y hy
  cases i with
  | succ i => simp at hy
  | zero =>
    obtain rfl : x = y := by simpa using hy
    have h := cells_new5 w x cs t hcs
    exact ⟨_, rfl, h 0 _ rfl, h 1 _ rfl, h 2 _ rfl, h 3 _ rfl, h 4 _ rfl⟩
theorem quo_tok (l : List Nat) (hl : ∀ x ∈ l, x < 256) : tok (quo l) = (⟨3, [], 0, l⟩, (quo l).length) := by
  have h := tok_quo l [] hl
  rw [List.append_nil] at h
  exact h
theorem quo_begins (l : List Nat) : Begins (quo l) := by
  unfold quo
  exact ⟨by simp, by simp; decide, fun h => by have := h.1; simp at this⟩
theorem toks_quo (l : List Nat) (hl : ∀ x ∈ l, x < 256) (n : Nat) : toks (quo l) n = .inr [(⟨3, [], 0, l⟩, n)] := by
  have h0 := quo_len l
  rw [toks_tok _ _ (quo_begins l) (by rw [quo_tok l hl]; show (quo l).length ≠ 0; omega), quo_tok l hl, List.drop_length, toks_nil]
  rfl
theorem unq_quo (l : List Nat) (hl : ∀ x ∈ l, x < 256) : unq (quo l) = some l := by
  have e : whl (quo l) = ⟨3, [], 0, l⟩ := by rw [whl_eq _ (by rw [quo_tok l hl]; simp), quo_tok l hl]
  rw [unq_yes _ (by rw [e]), e]
set_option maxRecDepth 100000 in
set_option maxHeartbeats 2000000 in
theorem quoteW (s : ByteArray) (w : World) (hTab : Tabs w) (hs : s.size ≤ 9223372036854775807) : Calls Tryd.prog 6 #[.string s] w (RetB w true) := by
  have HTab := hide hTab
  clear hTab
  by_cases h2 : s.size ≤ 1000
  · have d1 : decide ((1000 : Int) < s.size) = false := decide_eq_false (by omega)
    obtain ⟨q, Hq⟩ : ∃ q, Hid (q = bs (quo (by_ s))) := ⟨_, rfl⟩
    have hbq : Hid (by_ q = quo (by_ s)) := by show by_ q = _; rw [Hq.out, by_bs _ (quo_lt _ (by_lt s))]
    have hqs : q.size ≤ 60000 := by
      rw [← by_len, hbq.out, quo_len]
      have := flat_len (by_ s)
      rw [by_len] at this
      omega
    have hu : Hid (unq (by_ q) = some (by_ s)) := by show unq (by_ q) = _; rw [hbq.out, unq_quo _ (by_lt s)]
    have ht : Hid (toks (by_ q) 1 = .inr [(⟨3, [], 0, by_ s⟩, 1)]) := by show toks (by_ q) 1 = _; rw [hbq.out, toks_quo _ (by_lt s)]
    obtain ⟨X, HX⟩ : ∃ X : List (Tk × Nat), Hid (X = [(⟨3, [], 0, by_ s⟩, 1)]) := ⟨_, rfl⟩
    have hXl : Hid (X.length = 1) := by show X.length = 1; rw [HX.out]; rfl
    have b1 : (q.toList == q.toList) = true := by simp
    have b2 : (s.toList == s.toList) = true := by simp
    go_enter Tryd.func6, Tryd.ntmps6
    go_wp2_with fail
    refine (awake_any _ HTab.out).mono ?_
    rintro e w1 ⟨rfl, hu1⟩
    go_wp2_with fail
    refine (quote_any s _ (by omega)).mono ?_
    rw [← Hq.out]
    rintro e w2 ⟨rfl, hu2⟩
    go_wp2_with fail
    refine (unquote_any q _ (HTab.out.up (hu1.trans hu2)) (by omega)).mono ?_
    rw [hu.out]
    unfold RetS
    rw [show bs (Option.getD (some (by_ s)) []) = s from bs_by s, show (if (some (by_ s)).isSome then (0 : Int) else 2) = 0 from rfl]
    rintro e w3 ⟨rfl, hu3⟩
    go_wp2_with fail
    refine (tokens_any q _ (by omega) (HTab.out.up ((hu1.trans hu2).trans hu3))).mono ?_
    rw [ht.out, ← HX.out]
    intro e w4 hr
    obtain ⟨A, c, rfl, hc, hT, hu4⟩ := retU hr
    rw [show (tl (Sum.inr X)) = X from rfl, show lnO (Sum.inr X) = 0 from rfl, show erO (Sum.inr X) = 0 from rfl, hXl.out]
    rw [show (tl (Sum.inr X)) = X from rfl] at hT
    have HT := hide hT
    clear hc hT hr
    go_wp2_with fail
    refine (rquote_any s _ (by omega)).mono ?_
    rw [← Hq.out]
    rintro e w5 ⟨rfl, hu5⟩
    go_wp2_with fail
    refine (same_words A _ 1 1 _ _ X [(⟨3, [], 0, by_ s⟩, 0)] _ ((HT.out.up hu5).up ((Up.refl _).alloc _)) (tks_new _ _ _ _ (by simp [tkcs, bs_by]; rfl)) hXl.out.symm rfl (by rw [HX.out]; rfl) (by omega)).mono ?_
    rintro e w6 ⟨rfl, hu6⟩
    go_wp2
    go_ret
    exact ⟨rfl, ((((hu1.trans hu2).trans hu3).trans hu4).trans hu5).trans (up_alloc_up hu6)⟩
  · have d1 : decide ((1000 : Int) < s.size) = true := decide_eq_true (by omega)
    go_enter Tryd.func6, Tryd.ntmps6
    go_wp2_with fail
    refine (awake_any _ HTab.out).mono ?_
    rintro e w1 ⟨rfl, hu1⟩
    go_wp2_with fail
    refine (awake_any _ (HTab.out.up hu1)).mono ?_
    rintro e w2 ⟨rfl, hu2⟩
    go_wp2
    go_ret
    exact ⟨rfl, hu1.trans hu2⟩
end Go.Proofs.YtnhncakkbfjdjaaDoor
