/- The laws on tokens and on what string literals mean. -/
import Derived.Test.YtnhncakkbfjdjaaDoorVd
namespace Go.Proofs.YtnhncakkbfjdjaaDoor
open Go.RowKit

def tl (x : Nat ⊕ List (Tk × Nat)) : List (Tk × Nat) := match x with | .inl _ => [] | .inr l => l
def lnO (x : Nat ⊕ List (Tk × Nat)) : Nat := match x with | .inl n => n | .inr _ => 0
def erO (x : Nat ⊕ List (Tk × Nat)) : Nat := match x with | .inl _ => 2 | .inr _ => 0
/-- What Tokens returns, in one form. -/
def RetU (w : World) (x : Nat ⊕ List (Tk × Nat)) (e : Ending) (w' : World) : Prop := ∃ A c, e = .returned (.tuple #[.slice A (tl x).length c, .int .i64 (lnO x : Int), .int .i64 (erO x : Int)]) ∧ (tl x).length ≤ c ∧ Tks w' A (tl x) ∧ Up w w'
theorem retU {w w' : World} {base : Nat} {x : Nat ⊕ List (Tk × Nat)} {e : Ending} (h : RetToks w base x e w') : RetU w x e w' := by
  cases x with
  | inl n => exact ⟨none, 0, h.1, Nat.le_refl _, fun i y hi => by simp [tl] at hi, h.2⟩
  | inr l =>
    obtain ⟨v, n, rfl, hown, hu⟩ := h
    have hn := hown.len
    obtain ⟨A, c, rfl, hc, hT⟩ := hown.tks
    subst hn
    exact ⟨A, c, rfl, hc, hT, hu⟩
theorem tl_len (l : List Nat) (hl : ∀ x ∈ l, x < 256) : (tl (toks l 1)).length ≤ l.length := by
  cases h : toks l 1 with
  | inl n => simp [tl]
  | inr ts => exact (toks_good 0 _ l 1 ts (Nat.le_refl _) hl h).2.2
theorem tks_none (w : World) (A : Option Addr) : Tks w A [] := fun i x h => by simp at h
set_option maxRecDepth 100000 in
set_option maxHeartbeats 2000000 in
theorem tokensW (s : ByteArray) (w : World) (hTab : Tabs w) (hs : s.size ≤ 9223372036854775807) : Calls Tryd.prog 3 #[.string s] w (RetB w true) := by
  have HTab := hide hTab
  clear hTab
  by_cases h2 : s.size ≤ 2000
  · have d1 : decide ((2000 : Int) < s.size) = false := decide_eq_false (by omega)
    obtain ⟨x, Hx⟩ : ∃ x, Hid (x = toks (by_ s) 1) := ⟨_, rfl⟩
    have hxl : (tl x).length ≤ s.size := by rw [Hx.out, ← by_len]; exact tl_len _ (by_lt s)
    obtain ⟨n, Hn⟩ : ∃ n, Hid (n = (tl x).length) := ⟨_, rfl⟩
    obtain ⟨a, Ha⟩ : ∃ a, Hid (a = lnO x) := ⟨_, rfl⟩
    obtain ⟨b, Hb⟩ : ∃ b, Hid (b = erO x) := ⟨_, rfl⟩
    rw [← Hn.out] at hxl
    go_enter Tryd.func3, Tryd.ntmps3
    go_wp2_with fail
    refine (awake_any _ HTab.out).mono ?_
    rintro e w1 ⟨rfl, hu1⟩
    go_wp2_with fail
    refine (tokens_any s _ (by omega) (HTab.out.up hu1)).mono ?_
    rw [← Hx.out]
    intro e w2 hr
    obtain ⟨A, c, rfl, hc, hT, hu2⟩ := retU hr
    rw [← Hn.out, ← Ha.out, ← Hb.out]
    have HT := hide hT
    clear hc hT hr
    go_wp2_with fail
    refine (rtokens_any s _ (by omega)).mono ?_
    rw [← Hx.out]
    intro e w3 hr
    obtain ⟨B, c', rfl, hc, hT, hu3⟩ := retU hr
    rw [← Hn.out, ← Ha.out, ← Hb.out]
    have HT' := hide hT
    clear hc hT hr
    go_wp2_with fail
    refine (same_true A B n n _ _ (tl x) _ (HT.out.up hu3) HT'.out Hn.out Hn.out (by omega)).mono ?_
    rintro e w4 ⟨rfl, hu4⟩
    go_wp2
    go_ret
    exact ⟨rfl, ((hu1.trans hu2).trans hu3).trans hu4⟩
  · have d1 : decide ((2000 : Int) < s.size) = true := decide_eq_true (by omega)
    by_cases h3 : s.size ≤ 65536
    · have d2 : decide ((s.size : Int) ≤ 65536) = true := decide_eq_true (by omega)
      go_enter Tryd.func3, Tryd.ntmps3
      go_wp2_with fail
      refine (awake_any _ HTab.out).mono ?_
      rintro e w1 ⟨rfl, hu1⟩
      go_wp2_with fail
      refine (awake_any _ (HTab.out.up hu1)).mono ?_
      rintro e w2 ⟨rfl, hu2⟩
      go_wp2
      go_ret
      exact ⟨rfl, hu1.trans hu2⟩
    · have d2 : decide ((s.size : Int) ≤ 65536) = false := decide_eq_false (by omega)
      go_enter Tryd.func3, Tryd.ntmps3
      go_wp2_with fail
      refine (awake_any _ HTab.out).mono ?_
      rintro e w1 ⟨rfl, hu1⟩
      go_wp2_with fail
      refine (tokens_big s _ (by omega)).mono ?_
      rintro e w2 ⟨rfl, hu2⟩
      go_wp2_with fail
      refine (rtokens_big s _ (by omega)).mono ?_
      rintro e w3 ⟨rfl, hu3⟩
      go_wp2_with fail
      refine (same_true none none 0 0 _ _ [] _ (tks_none _ _) (tks_none _ _) rfl rfl (by omega)).mono ?_
      rintro e w4 ⟨rfl, hu4⟩
      go_wp2
      go_ret
      exact ⟨rfl, ((hu1.trans hu2).trans hu3).trans hu4⟩
set_option maxRecDepth 100000 in
set_option maxHeartbeats 2000000 in
theorem unquoteW (s : ByteArray) (w : World) (hTab : Tabs w) (hs : s.size ≤ 9223372036854775807) : Calls Tryd.prog 7 #[.string s] w (RetB w true) := by
  have HTab := hide hTab
  clear hTab
  by_cases h2 : s.size ≤ 1000
  · have d1 : decide ((1000 : Int) < s.size) = false := decide_eq_false (by omega)
    obtain ⟨S, HS⟩ : ∃ S, Hid (S = bs ((unq (by_ s)).getD [])) := ⟨_, rfl⟩
    obtain ⟨E, HE⟩ : ∃ E : Int, Hid (E = if (unq (by_ s)).isSome then 0 else 2) := ⟨_, rfl⟩
    have q : (S.toList == S.toList) = true := by simp
    go_enter Tryd.func7, Tryd.ntmps7
    go_wp2_with fail
    refine (awake_any _ HTab.out).mono ?_
    rintro e w1 ⟨rfl, hu1⟩
    go_wp2_with fail
    refine (unquote_any s _ (HTab.out.up hu1) (by omega)).mono ?_
    unfold RetS
    rw [← HS.out, ← HE.out]
    rintro e w2 ⟨rfl, hu2⟩
    go_wp2_with fail
    refine (runq_any s _ (by omega)).mono ?_
    unfold RetS
    rw [← HS.out, ← HE.out]
    rintro e w3 ⟨rfl, hu3⟩
    go_wp2
    go_ret
    exact ⟨by simp, (hu1.trans hu2).trans hu3⟩
  · have d1 : decide ((1000 : Int) < s.size) = true := decide_eq_true (by omega)
    go_enter Tryd.func7, Tryd.ntmps7
    go_wp2_with fail
    refine (awake_any _ HTab.out).mono ?_
    rintro e w1 ⟨rfl, hu1⟩
    go_wp2_with fail
    refine (awake_any _ (HTab.out.up hu1)).mono ?_
    rintro e w2 ⟨rfl, hu2⟩
    go_wp2
    go_ret
    exact ⟨rfl, hu1.trans hu2⟩
end Go.Proofs.YtnhncakkbfjdjaaDoor
