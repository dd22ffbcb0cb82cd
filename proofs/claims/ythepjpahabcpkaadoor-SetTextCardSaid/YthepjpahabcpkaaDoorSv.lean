/- Walks: a text read as a set, by the reference; the laws on texts. -/
import Derived.Test.YthepjpahabcpkaaDoorSu
namespace Go.Proofs.YthepjpahabcpkaaDoor
open Go.RowKit Go.Shelf

theorem parse_none {b : List UInt8} (h : ∀ i, i < 4096 → ¬ txU i = b) : parseU b = (0, 2) := by
  unfold parseU
  cases hr : lp 0 (wdsU b) with
  | none => rfl
  | some p => exact if_neg (h p (lp_lt _ 0 p (by omega) hr))
theorem parse_some {b : List UInt8} {i : Nat} (hi : i < 4096) (h : txU i = b) : parseU b = (i, 0) := by
  rw [← h, parse_tx (by omega), if_pos hi]
set_option maxRecDepth 100000 in
set_option maxHeartbeats 4000000 in
theorem rparse_any (b : List UInt8) (w : World) (hl : b.length ≤ 1000) : Calls Tryd.prog 37 #[.string (bu b)] w (RetE w (parseU b)) := by
  obtain ⟨S, HS⟩ : ∃ S, Hid (S = parseU b) := ⟨_, rfl⟩
  rw [← HS.out]
  obtain ⟨B, HB⟩ : ∃ B, Hid (B = bu b) := ⟨_, rfl⟩
  obtain ⟨n, hn⟩ : ∃ n, b.length = n := ⟨_, rfl⟩
  have hBn : B.size = n := by rw [HB.out, ← hn]; show b.toArray.size = _; simp
  have HL : Hid (∀ i, i < 4096 → 40 < n → ¬ txU i = b) := fun i hi h e => by
    have := tx_len hi
    rw [e, hn] at this
    omega
  rw [← HB.out]
  rw [hn] at hl
  clear hn
  go_enter Tryd.func37, Tryd.ntmps37
  go_wp2
  go_loopw [4] (fun v wr => ∃ k : Nat, v = .int .i64 (k : Int) ∧ k ≤ 4096 ∧ Up w wr ∧ Hid (∀ j, j < k → ¬ txU j = b)) (fun v _ => 4096 - (intOf v).toNat)
  case atStart => exact ⟨0, rfl, by omega, Up.refl _, fun j hj => absurd hj (by omega)⟩
  case round =>
    obtain ⟨k, rfl, hk, hup, HX⟩ := hrel
    by_cases hlt : k < 4096
    · have dk : decide ((k : Int) < 4096) = true := decide_eq_true (by omega)
      have wk : IntKind.u16.wrap (k : Int) = (k : Int) := by rw [wrap16]; omega
      by_cases h40 : n ≤ 40
      · have d40 : decide ((n : Int) ≤ 40) = true := decide_eq_true (by omega)
        obtain ⟨F, HF⟩ : ∃ F, Hid (F = bu (txU k)) := ⟨_, rfl⟩
        have hfm := fun w => rformat_any k w (by omega)
        rw [← HF.out] at hfm
        go_wp2_with fail
        refine (hfm _).mono ?_
        rintro e w3 ⟨rfl, hu3⟩
        by_cases hq : F = B
        · have HX4 : Hid (S = (k, 0)) := by show S = _; rw [HS.out]; exact parse_some hlt (bu_inj.1 (by rw [← HF.out, ← HB.out]; exact hq))
          subst hq
          go_wp2
          go_ret2
          exact ⟨by rw [HX4.out]; rfl, hup.trans hu3⟩
        · have hne : ¬ txU k = b := fun h => hq (by rw [HF.out, HB.out, h])
          have q3 := str_ne hq
          clear hq
          go_wp2
          go_roundw
          case rel => exact ⟨k + 1, by go_num, by omega, hup.trans hu3, fun j hj => by
            by_cases e : j = k
            · rw [e]; exact hne
            · exact HX.out j (by omega)⟩
          case measure => simp [intOf]; omega
      · have d40 : decide ((n : Int) ≤ 40) = false := decide_eq_false (by omega)
        have hne : ¬ txU k = b := HL.out k hlt (by omega)
        go_wp2
        go_roundw
        case rel => exact ⟨k + 1, by go_num, by omega, hup, fun j hj => by
          by_cases e : j = k
          · rw [e]; exact hne
          · exact HX.out j (by omega)⟩
        case measure => simp [intOf]; omega
    · have dk : decide ((k : Int) < 4096) = false := decide_eq_false (by omega)
      have HX4 : Hid (S = (0, 2)) := by show S = _; rw [HS.out]; exact parse_none fun i hi => HX.out i (by omega)
      go_wp2
      go_ret2
      exact ⟨by rw [HX4.out]; rfl, hup⟩
end Go.Proofs.YthepjpahabcpkaaDoor
