/- Walks: the minimal sets of a list. -/
import Derived.Test.YtfdlmgjjpcdkpaaDoorFw
namespace Go.Proofs.YtfdlmgjjpcdkpaaDoor
open Go.RowKit

set_option maxRecDepth 100000 in
set_option maxHeartbeats 2000000 in
theorem limited_any (v : Value) (m base : Nat) (out : List Nat) (w : World) (hown : w.ownsRow base 28 1 v m (us out)) (hm : m ≤ 500000) :
    Calls Tryd.prog 44 #[v] w fun e w' => ∃ v2, e = .returned (.tuple #[v2, .int .i64 (if 400 < m then ([], 3) else (out, 0) : List Nat × Int).2]) ∧ w.ownsRow base 28 1 v2 (if 400 < m then ([], 3) else (out, 0) : List Nat × Int).1.length (us (if 400 < m then ([], 3) else (out, 0) : List Nat × Int).1) ∧ w' = w := by
  have hlen := own_len hown
  obtain ⟨A, c, rfl, _, _, _, _⟩ := own_vals hown
  have HO := hide hown
  clear hown
  by_cases h4 : 400 < m
  · rw [if_pos h4]
    have d4 : decide (400 < (m : Int)) = true := decide_eq_true (by omega)
    clear h4
    go_enter Tryd.func44, Tryd.ntmps44
    go_wp2
    go_ret2
    exact ⟨.slice none 0 0, rfl, World.ownsRow_nil _ _ _ _, rfl⟩
  · rw [if_neg h4]
    have d4 : decide (400 < (m : Int)) = false := decide_eq_false (by omega)
    clear h4
    go_enter Tryd.func44, Tryd.ntmps44
    go_wp2
    go_ret2
    exact ⟨_, rfl, by show w.ownsRow base _ 1 _ out.length (us out); rw [hlen]; exact HO.out, rfl⟩
/-- A list in order, walked on: what is kept. -/
theorem minK_step (kept s : List Nat) (k : Nat) (h : k < s.length) : minK kept (s.drop k) = if acc kept (s[k]'h) then minK kept (s.drop (k + 1)) else minK (kept ++ [s[k]'h]) (s.drop (k + 1)) := by
  rw [drop_at s k h]
  rfl
theorem minE_ok {l : List Nat} (h : far l = false) : minE l = if 400 < (minS l).length then ([], 3) else (minS l, 0) := by
  unfold minE
  rw [if_neg]
  show ¬ far l = true
  rw [h]
  simp
theorem minE_far {l : List Nat} (h : far l = true) : minE l = ([], 7) := by
  unfold minE
  rw [if_pos]
  exact h
set_option maxRecDepth 100000 in
set_option maxHeartbeats 4000000 in
theorem minimal_any (A : Option Addr) (n c : Nat) (l : List Nat) (w : World) (hA0 : Vals w A (us l)) (Hn : Hid (n = l.length)) (HS : Hid (Small16 l)) (hn : n ≤ 400000) :
    Calls Tryd.prog 14 #[.slice A n c] w (RetP w (minE l)) := by
  have hdis := distinct_any A n c l w hA0 Hn HS (by omega)
  clear hA0
  obtain ⟨P, HP⟩ : ∃ P : List Nat × Int, Hid (P = minE l) := ⟨_, rfl⟩
  rw [← HP.out]
  cases hfar : far l with
  | true =>
    have HP2 : Hid (P = ([], 7)) := by show P = _; rw [HP.out, minE_far hfar]
    have e : disE l = ([], 7) := by unfold disE; rw [if_pos hfar]
    rw [e] at hdis
    unfold RetP at hdis
    dsimp only at hdis
    clear hfar e
    go_enter Tryd.func14, Tryd.ntmps14
    go_wp2_with fail
    refine hdis.mono ?_
    rintro e w1 ⟨v, rfl, _, hu1⟩
    go_wp2
    go_ret2
    exact ⟨.slice none 0 0, by rw [HP2.out]; rfl, by rw [HP2.out]; exact World.ownsRow_nil _ _ _ _, hu1⟩
  | false =>
    have HP2 : Hid (P = if 400 < (minS l).length then ([], 3) else (minS l, 0)) := by show P = _; rw [HP.out, minE_ok hfar]
    have e : disE l = (srt l, 0) := by unfold disE; rw [if_neg (by rw [hfar]; simp)]
    rw [e] at hdis
    unfold RetP at hdis
    dsimp only at hdis
    clear hfar e
    obtain ⟨s, Hs⟩ : ∃ s, Hid (s = srt l) := ⟨_, rfl⟩
    rw [← Hs.out] at hdis
    have HX16 : Hid (Small16 s) := by intro x hx; rw [Hs.out] at hx; exact HS.out x ((mem_srt l x).1 hx)
    have HM : Hid (minK [] s = minS l) := by show _ = _; rw [Hs.out]; exact minK_all HS.out
    obtain ⟨m, Hm⟩ : ∃ m, Hid (m = s.length) := ⟨_, rfl⟩
    have hm : m ≤ 400000 := by
      have h1 := srt_len l
      rw [← Hs.out, ← Hm.out, ← Hn.out] at h1
      omega
    rw [← Hm.out] at hdis
    go_enter Tryd.func14, Tryd.ntmps14
    go_wp2_with fail
    refine hdis.mono ?_
    rintro e w1 ⟨v, rfl, hown0, hu1⟩
    obtain ⟨A4, c4, rfl, hc4, hV4, _, _⟩ := own_vals hown0
    have HV := hide hV4
    clear hown0 hV4 hdis
    go_wp2
    go_loopw [6, 19] (fun v6 v19 wr => ∃ (k q : Nat) (ls : List Nat), v19 = .int .i64 (k : Int) ∧ k ≤ m ∧ q ≤ k ∧ wr.ownsRow w1.heap.size 28 1 v6 q (us ls) ∧ Hid (minK [] s = minK ls (s.drop k)) ∧ Hid (Small16 ls) ∧ Up w1 wr) (fun _ v19 _ => m - (intOf v19).toNat)
    case atStart => exact ⟨0, 0, [], rfl, by omega, by omega, World.ownsRow_nil _ _ _ _, rfl, fun x hx => by simp at hx, Up.refl _⟩
    case round =>
      obtain ⟨k, q, ls, rfl, hk, hqk, hown, HK, HQ, hup⟩ := hrel
      have hsz := hup.size
      have hlen := own_len hown
      obtain ⟨A6, c6, rfl, hc6, hV6, _, _⟩ := own_vals hown
      by_cases hlt : k < m
      · have hk1 : k < s.length := by rw [← Hm.out]; exact hlt
        obtain ⟨x, Hx⟩ : ∃ x, Hid (x = s[k]'hk1) := ⟨_, rfl⟩
        have hx16 : x < 65536 := by rw [Hx.out]; exact HX16.out _ (List.getElem_mem hk1)
        have hv := us_at hk1
        rw [← Hx.out] at hv
        obtain ⟨ad, hAd, hb, hcell⟩ := (HV.out.up hup).at_ hv
        subst hAd
        have HK2 : Hid (minK [] s = if acc ls x then minK ls (s.drop (k + 1)) else minK (ls ++ [x]) (s.drop (k + 1))) := by
          show _ = _
          rw [HK.out, minK_step ls s k hk1, ← Hx.out]
        have hacc := acc_any A6 q c6 ls x wr hV6 hlen.symm HQ hx16 (by omega)
        obtain ⟨b, hbb⟩ : ∃ b, acc ls x = b := ⟨_, rfl⟩
        rw [hbb] at HK2 hacc
        have hlt' : decide (k < m) = true := decide_eq_true hlt
        clear hv hbb hV6 hlen
        go_wp2_with fail
        refine hacc.mono ?_
        rintro e w2 ⟨rfl, rfl⟩
        cases b with
        | true =>
          have HK3 : Hid (minK [] s = minK ls (s.drop (k + 1))) := HK2.out
          go_wp2
          go_roundw
          case rel => exact ⟨k + 1, q, ls, by go_num, by omega, by omega, hown, HK3.out, HQ.out, hup⟩
          case measure => simp [intOf]; omega
        | false =>
          have HK3 : Hid (minK [] s = minK (ls ++ [x]) (s.drop (k + 1))) := HK2.out
          have HQ3 : Hid (Small16 (ls ++ [x])) := by
            intro y hy
            rcases List.mem_append.1 hy with h | h
            · exact HQ.out y h
            · simp at h; rw [h]; exact hx16
          go_wp2_with (at_builtin; refine wp_appV rfl _ _ 22 28 rfl w1.heap.size (.int .u16 0) 2 Tryd.underlying22 Tryd.info28 rfl (by decide) _ q _ rfl (hown.alloc _) (some ⟨w2.heap.size, 0, none⟩) 1 1 (us [x]) rfl rfl (us_one _) (vals_one _ _ _) (by omega) (by simp; omega) ?_; intro v1 w3 hown3 hgrow3)
          go_roundw
          case rel => exact ⟨k + 1, q + 1, ls ++ [x], by go_num, by omega, by omega, by rw [us_append]; exact hown3, HK3.out, HQ3.out, up_append hup hown hgrow3⟩
          case measure => simp [intOf]; omega
      · have HE : Hid (ls = minS l) := by
          show ls = _
          rw [← HM.out, HK.out, List.drop_eq_nil_of_le (by rw [← Hm.out]; omega)]
          rfl
        have HP3 : Hid (P = if 400 < q then ([], 3) else (ls, 0)) := by show P = _; rw [HP2.out, ← HE.out, hlen]
        have hge : decide (k < m) = false := decide_eq_false hlt
        have hlim := limited_any _ q w.heap.size ls wr (own_mono hown hu1.size) (by omega)
        rw [← HP3.out] at hlim
        clear hown hV6 hlen
        go_wp2_with fail
        refine hlim.mono ?_
        rintro e w2 ⟨v2, rfl, hown2, rfl⟩
        have HO := hide hown2
        clear hown2 hlim
        go_wp2
        go_ret2
        exact ⟨_, rfl, HO.out, hu1.trans hup⟩
end Go.Proofs.YtfdlmgjjpcdkpaaDoor
