/- Walks: the reference on families: the error, the sets in order. -/
import Derived.Test.YtfdlmgjjpcdkpaaDoorFr
namespace Go.Proofs.YtfdlmgjjpcdkpaaDoor
open Go.RowKit

theorem own_mono {w : World} {base base' n : Nat} {e : TypeId} {v : Value} {l : List Value} (h : w.ownsRow base e 1 v n l) (hb : base' ≤ base) : w.ownsRow base' e 1 v n l := by
  obtain ⟨hl, hc⟩ := h
  refine ⟨hl, ?_⟩
  rcases hc with ⟨rfl, h0⟩ | ⟨g, cap, cur, rfl, hg, r⟩
  · exact .inl ⟨rfl, h0⟩
  · exact .inr ⟨g, cap, cur, rfl, Nat.le_trans hb hg, r⟩
theorem own_form {w : World} {base n : Nat} {e : TypeId} {v : Value} {l : List Value} (h : w.ownsRow base e 1 v n l) (hn : 0 < n) : ∃ g c, v = .slice (some ⟨g, 0, none⟩) n c ∧ base ≤ g ∧ g < w.heap.size ∧ n ≤ c := by
  rcases h.2 with ⟨_, h0⟩ | ⟨g, cap, cur, rfl, hb, hg, hnc, _⟩
  · omega
  · exact ⟨g, cap, rfl, hb, (World.ownsRow.lt h g rfl).2, hnc⟩
theorem us_set (l : List Nat) (j x : Nat) : (us l).set j (.int .u16 (x : Int)) = us (l.set j x) := by simp [us, sv, List.map_set]
theorem own_set {w : World} {base g n c : Nat} {l : List Nat} (h : w.ownsRow base 28 1 (.slice (some ⟨g, 0, none⟩) n c) n (us l)) (j x : Nat) : (w.setCell ⟨g, j, none⟩ (.int .u16 (x : Int))).ownsRow base 28 1 (.slice (some ⟨g, 0, none⟩) n c) n (us (l.set j x)) := by
  have := (World.ownsRow.stored h j (.int .u16 (x : Int))).1
  rw [us_set] at this
  exact this
theorem own_at {w : World} {base g n c : Nat} {l : List Nat} (h : w.ownsRow base 28 1 (.slice (some ⟨g, 0, none⟩) n c) n (us l)) {j : Nat} {x : Nat} (hj : l[j]? = some x) : w.cell? ⟨g, j, none⟩ = some (.int .u16 (x : Int)) := by
  have h2 := own_cell h (j := j) (x := .int .u16 (x : Int)) (by unfold us; rw [List.getElem?_map, hj]; rfl)
  rwa [Nat.zero_add] at h2
theorem own_frozen {w : World} {base g n c : Nat} {l : List Nat} (h : w.ownsRow base 28 1 (.slice (some ⟨g, 0, none⟩) n c) n (us l)) (j : Nat) : w.frozen? ⟨g, j, none⟩ = false := World.ownsRow.frozenAt h j
theorem own_len {w : World} {base n : Nat} {e : TypeId} {v : Value} {l : List Nat} (h : w.ownsRow base e 1 v n (us l)) : l.length = n := by have := h.1; rw [us_len] at this; omega
set_option maxRecDepth 100000 in
set_option maxHeartbeats 4000000 in
theorem rvalid_any (A : Option Addr) (n c : Nat) (l : List Nat) (w : World) (hA0 : Vals w A (us l)) (Hn : Hid (n = l.length)) (HS : Hid (Small16 l)) (hn : n ≤ 1000000) :
    Calls Tryd.prog 13 #[.slice A n c] w (RetV w (.int .i64 (valE l))) := by
  obtain ⟨S, HSS⟩ : ∃ S, Hid (S = valE l) := ⟨_, rfl⟩
  rw [← HSS.out]
  have HA := hide hA0
  clear hA0
  by_cases h4 : 400 < n
  · have HY : Hid (S = 3) := by show S = 3; rw [HSS.out]; unfold valE; rw [if_pos (by rw [← Hn.out]; exact h4)]
    have d : decide (400 < (n : Int)) = true := decide_eq_true (by omega)
    clear h4
    go_enter Tryd.func13, Tryd.ntmps13
    go_wp2
    go_ret
    exact ⟨by rw [HY.out]; rfl, Up.refl _⟩
  have HV : Hid (S = if ordE none l ≠ 0 then ordE none l else if antiB l then 0 else 1) := by
    show S = _
    rw [HSS.out]
    unfold valE
    rw [if_neg (by rw [← Hn.out]; exact h4)]
  have d : decide (400 < (n : Int)) = false := decide_eq_false (by omega)
  clear h4
  go_enter Tryd.func13, Tryd.ntmps13
  go_wp2
  go_loopw [3] (fun v wr => ∃ k : Nat, v = .int .i64 (k : Int) ∧ k ≤ n ∧ Hid (ordE none l = ordE (prv l k) (l.drop k)) ∧ Up w wr) (fun v _ => n - (intOf v).toNat)
  case atStart => exact ⟨0, rfl, by omega, rfl, Up.refl _⟩
  case round =>
    obtain ⟨k, rfl, hk, HX, hup⟩ := hrel
    by_cases hlt : k < n
    · have hk1 : k < l.length := by rw [← Hn.out]; exact hlt
      obtain ⟨p, Hp⟩ : ∃ p, Hid (p = l[k]'hk1) := ⟨_, rfl⟩
      have hp16 : p < 65536 := by rw [Hp.out]; exact HS.out _ (List.getElem_mem hk1)
      have hv := us_at hk1
      rw [← Hp.out] at hv
      obtain ⟨ad, hAd, hb, hcell⟩ := (HA.out.up hup).at_ hv
      have HX2 : Hid (ordE none l = if 4096 ≤ p then 7 else if notBef p (prv l k) = true then 1 else ordE (prv l (k + 1)) (l.drop (k + 1))) := by
        show _ = _
        rw [HX.out, ordE_step l k hk1, ← Hp.out]
      have hin := rrange_any p wr
      clear hv HX
      by_cases h40 : p < 4096
      · rw [decide_eq_true h40] at hin
        rw [if_neg (show ¬ 4096 ≤ p by omega)] at HX2
        by_cases hk0 : k = 0
        · have HX3 : Hid (ordE none l = ordE (prv l (k + 1)) (l.drop (k + 1))) := by show _ = _; rw [HX2.out, hk0]; rfl
          have d0 : decide (0 < k) = false := decide_eq_false (by omega)
          subst hAd
          clear h40 HX2 hk0
          go_wp2_with fail
          refine hin.mono ?_
          rintro e w1 ⟨rfl, rfl⟩
          go_wp2
          go_quiet (fail)
          go_wp2
          go_roundw
          case rel => exact ⟨k + 1, by go_num, by omega, HX3.out, hup.drewN _⟩
          case measure => simp [intOf]; omega
        · obtain ⟨j, hkj⟩ : ∃ j, k = j + 1 := ⟨k - 1, by omega⟩
          have hj1 : j < l.length := by omega
          obtain ⟨q, Hq⟩ : ∃ q, Hid (q = l[j]'hj1) := ⟨_, rfl⟩
          have hq16 : q < 65536 := by rw [Hq.out]; exact HS.out _ (List.getElem_mem hj1)
          have hv2 := us_at hj1
          rw [← Hq.out] at hv2
          obtain ⟨ad', hAd', hb', hcell'⟩ := (HA.out.up hup).at_ hv2
          rw [hAd] at hAd'
          injection hAd' with hAd'
          subst hAd'
          subst hAd
          have HP : Hid (notBef p (prv l k) = !bef q p) := by
            show notBef p (prv l k) = _
            rw [hkj]
            show notBef p l[j]? = _
            rw [List.getElem?_eq_getElem hj1, ← Hq.out]
            rfl
          rw [HP.out] at HX2
          have hcmp := fun w => rbef_any q p w hq16 hp16
          obtain ⟨x, hx⟩ : ∃ x, bef q p = x := ⟨_, rfl⟩
          rw [hx] at HX2 hcmp
          have d0 : decide (0 < k) = true := decide_eq_true (by omega)
          have e1 : (k : Int) - 1 = (j : Int) := by omega
          have hjn : j < n := by omega
          clear hv2 h40 HP hx hk0 hkj
          go_wp2_with fail
          refine hin.mono ?_
          rintro e w1 ⟨rfl, rfl⟩
          go_wp2
          go_quiet ((go_at_call 41; with_reducible exact Calls.quiet_of_same (hcmp _)))
          cases x with
          | false =>
            have HX3 : Hid (S = 1) := by
              show S = 1
              have e1 : ordE none l = 1 := by rw [HX2.out]; rfl
              rw [HV.out, e1]
              rfl
            go_wp2
            go_ret
            exact ⟨by rw [HX3.out]; rfl, hup.drewN _⟩
          | true =>
            have HX3 : Hid (ordE none l = ordE (prv l (k + 1)) (l.drop (k + 1))) := by
              show _ = _
              rw [HX2.out]
              rfl
            go_wp2
            go_roundw
            case rel => exact ⟨k + 1, by go_num, by omega, HX3.out, hup.drewN _⟩
            case measure => simp [intOf]; omega
      · rw [decide_eq_false h40] at hin
        have HX3 : Hid (S = 7) := by
          show S = 7
          have e1 : ordE none l = 7 := by rw [HX2.out, if_pos (by omega)]
          rw [HV.out, e1]
          rfl
        subst hAd
        clear h40 HX2
        go_wp2_with fail
        refine hin.mono ?_
        rintro e w1 ⟨rfl, rfl⟩
        go_wp2
        go_ret
        exact ⟨by rw [HX3.out]; rfl, hup⟩
    · have HK : Hid (k = n) := by show k = n; omega
      have HO : Hid (ordE none l = 0) := by
        show _ = _
        rw [HX.out, List.drop_eq_nil_of_le (by rw [← Hn.out, HK.out]; exact Nat.le_refl _)]
        rfl
      have HV2 : Hid (S = if antiB l then 0 else 1) := by show S = _; rw [HV.out, if_neg (by rw [HO.out]; simp)]
      have HI : Hid (Inc l) := (ordE_ok l none HO.out).2.1
      have hge : decide (k < n) = false := decide_eq_false hlt
      clear HX HV
      go_wp2
      go_loopw [4] (fun v wx => ∃ i : Nat, v = .int .i64 (i : Int) ∧ i ≤ n ∧ Hid (∀ (a b : Nat) (h : a < l.length) (h' : b < l.length), a < i → a ≠ b → con (l[a]'h) (l[b]'h') = false) ∧ Up w wx) (fun v _ => n - (intOf v).toNat)
      case atStart => exact ⟨0, rfl, by omega, fun a b h h' hi => by omega, hup⟩
      case round =>
        obtain ⟨i, rfl, hi, HF, hupx⟩ := hrel
        by_cases hlt2 : i < n
        · have hi1 : i < l.length := by rw [← Hn.out]; exact hlt2
          obtain ⟨p, Hp⟩ : ∃ p, Hid (p = l[i]'hi1) := ⟨_, rfl⟩
          have hp16 : p < 65536 := by rw [Hp.out]; exact HS.out _ (List.getElem_mem hi1)
          have hv := us_at hi1
          rw [← Hp.out] at hv
          go_wp2
          go_loopw [5] (fun v wy => ∃ j : Nat, v = .int .i64 (j : Int) ∧ j ≤ n ∧ Hid (∀ (b : Nat) (h' : b < l.length), b < j → i ≠ b → con p (l[b]'h') = false) ∧ Up w wy) (fun v _ => n - (intOf v).toNat)
          case atStart => exact ⟨0, rfl, by omega, fun b h' hb => by omega, hupx⟩
          case round =>
            obtain ⟨j, rfl, hj, HG, hupy⟩ := hrel
            by_cases hlt3 : j < n
            · have hj1 : j < l.length := by rw [← Hn.out]; exact hlt3
              obtain ⟨q, Hq⟩ : ∃ q, Hid (q = l[j]'hj1) := ⟨_, rfl⟩
              have hq16 : q < 65536 := by rw [Hq.out]; exact HS.out _ (List.getElem_mem hj1)
              have hv2 := us_at hj1
              rw [← Hq.out] at hv2
              obtain ⟨ad, hAd, hb, hcell⟩ := (HA.out.up hupy).at_ hv
              obtain ⟨ad', hAd', hb', hcell'⟩ := (HA.out.up hupy).at_ hv2
              rw [hAd] at hAd'
              injection hAd' with hAd'
              subst hAd'
              subst hAd
              by_cases hij : i = j
              · have d0 : ((i : Int) != (j : Int)) = false := by rw [bne_eq_false_iff_eq]; omega
                have HG2 : Hid (∀ (b : Nat) (h' : b < l.length), b < j + 1 → i ≠ b → con p (l[b]'h') = false) := fun b h' hb hne => HG.out b h' (by omega) hne
                clear hij
                go_wp2
                go_quiet (fail)
                go_wp2
                go_roundw
                case rel => exact ⟨j + 1, by go_num, by omega, HG2.out, hupy.drewN _⟩
                case measure => simp [intOf]; omega
              · have d0 : ((i : Int) != (j : Int)) = true := by rw [bne_iff_ne]; omega
                have hcall := fun w => rcon_any p q w hp16 hq16
                have HB : Hid (∀ b, con p q = b → con (l[i]'hi1) (l[j]'hj1) = b) := by intro b hb; rw [← Hp.out, ← Hq.out]; exact hb
                obtain ⟨x, hx⟩ : ∃ x, con p q = x := ⟨_, rfl⟩
                have HX : Hid (con p q = x) := hx
                rw [hx] at hcall
                replace HB := hide (HB.out x hx)
                have HIJ := hide hij
                clear hx hij
                go_wp2
                go_quiet ((go_at_call 42; with_reducible exact Calls.quiet_of_same (hcall _)))
                cases x with
                | true =>
                  have HX3 : Hid (S = 1) := by
                    show S = 1
                    rw [HV2.out, if_neg]
                    intro ht
                    have := (anti_idx HI.out).1 ht i j hi1 hj1 HIJ.out
                    rw [HB.out] at this
                    cases this
                  go_wp2
                  go_ret
                  exact ⟨by rw [HX3.out]; rfl, hupy.drewN _⟩
                | false =>
                  have HG2 : Hid (∀ (b : Nat) (h' : b < l.length), b < j + 1 → i ≠ b → con p (l[b]'h') = false) := by
                    intro b h' hb hne
                    by_cases hbj : b < j
                    · exact HG.out b h' hbj hne
                    · have : b = j := by omega
                      subst this
                      rw [← Hq.out]
                      exact HX.out
                  go_wp2
                  go_roundw
                  case rel => exact ⟨j + 1, by go_num, by omega, HG2.out, hupy.drewN _⟩
                  case measure => simp [intOf]; omega
            · have hge3 : decide (j < n) = false := decide_eq_false hlt3
              have HF2 : Hid (∀ (a b : Nat) (h : a < l.length) (h' : b < l.length), a < i + 1 → a ≠ b → con (l[a]'h) (l[b]'h') = false) := by
                intro a b h h' ha hne
                by_cases hai : a < i
                · exact HF.out a b h h' hai hne
                · have : a = i := by omega
                  subst this
                  rw [← Hp.out]
                  exact HG.out b h' (by have := Hn.out; omega) hne
              go_wp2
              go_roundw
              case rel => exact ⟨i + 1, by go_num, by omega, HF2.out, hupy⟩
              case measure => simp [intOf]; omega
        · have HX3 : Hid (S = 0) := by
            show S = 0
            rw [HV2.out, if_pos]
            refine (anti_idx HI.out).2 fun a b h h' hne => HF.out a b h h' ?_ hne
            have := Hn.out
            omega
          have hge2 : decide (i < n) = false := decide_eq_false hlt2
          go_wp2
          go_ret
          exact ⟨by rw [HX3.out]; rfl, hupx⟩
end Go.Proofs.YtfdlmgjjpcdkpaaDoor
