/- Walks: the literal of a string, by the reference. -/
import Derived.Test.YtnhncakkbfjdjaaDoorWl
namespace Go.Proofs.YtnhncakkbfjdjaaDoor
open Go.RowKit

theorem slice_one (s : ByteArray) (k : Nat) (h : k < s.size) (W : World) : (Instr.slice 9 (.string s) (some (.int .i64 (k : Int))) (some (.int .i64 ((k : Int) + 1))) none).run Tryd.prog W = .ok (.string (bs [(by_ s).getD k 0])) W := by
  rw [run_slice_string _ _ _ _ _ _ _ Tryd.underlying9 (by omega) (by omega) (by omega)]
  simp only [Int.toNat_natCast]
  rw [ext_bs, show ((k : Int) + 1).toNat = k + 1 by omega, show k + 1 - k = 1 by omega, drop_at _ _ (by rw [by_len]; exact h)]
  rfl
theorem hexSl : ∀ n : Nat, n < 16 → ∀ W : World, (Instr.slice 9 (.string ⟨#[48, 49, 50, 51, 52, 53, 54, 55, 56, 57, 97, 98, 99, 100, 101, 102]⟩) (some (.int .u8 (n : Int))) (some (.int .u8 ((n : Int) + 1))) none).run Tryd.prog W = .ok (.string (bs [hxc n])) W := by
  intro n hn W
  have hs : (⟨#[48, 49, 50, 51, 52, 53, 54, 55, 56, 57, 97, 98, 99, 100, 101, 102]⟩ : ByteArray).size = 16 := rfl
  rw [run_slice_string _ _ _ _ _ _ _ Tryd.underlying9 (by omega) (by omega) (by rw [hs]; omega)]
  simp only [Int.toNat_natCast]
  rw [show ((n : Int) + 1).toNat = n + 1 by omega]
  congr 2
  have h : ∀ n : Nat, n < 16 → (⟨#[48, 49, 50, 51, 52, 53, 54, 55, 56, 57, 97, 98, 99, 100, 101, 102]⟩ : ByteArray).extract n (n + 1) = bs [hxc n] := by decide +kernel
  exact h n hn
theorem wrap8 (x : Int) (h0 : 0 ≤ x) (h1 : x < 256) : IntKind.u8.wrap x = x := by simp [IntKind.wrap, IntKind.bits, IntKind.signed]; omega
theorem fits (a b : List Nat) (n m : Nat) (ha : a.length ≤ n) (hb : b.length ≤ m) (hn : n + m ≤ 9223372036854775807) : ¬ 9223372036854775807 < (bs a).size + (bs b).size := by rw [bs_size, bs_size]; omega
set_option maxRecDepth 100000 in
set_option maxHeartbeats 2000000 in
theorem rquote_any (s : ByteArray) (w : World) (hs : s.size ≤ 100000) : Calls Tryd.prog 19 #[.string s] w (RetStr w (bs (quo (by_ s)))) := by
  go_enter Tryd.func19, Tryd.ntmps19
  go_wp2
  go_loopw [3, 4] (fun v i wr => ∃ (k : Nat) (l : List Nat), i = .int .i64 k ∧ k ≤ s.size ∧ v = .string (bs l) ∧ Up w wr ∧ Hid (l = quoK (by_ s) k)) (fun _ i _ => s.size - (intOf i).toNat)
  case atStart => exact ⟨0, [34], rfl, by omega, rfl, Up.refl _, rfl⟩
  case round =>
    obtain ⟨k, l, rfl, hk, rfl, hup, HL⟩ := hrel
    have hll : l.length ≤ 400001 := by rw [HL.out]; have := quoK_len (by_ s) k (by rw [by_len]; omega); omega
    by_cases hlt : k < s.size
    · obtain ⟨c, Hc⟩ : ∃ c, Hid (c = (by_ s).getD k 0) := ⟨_, rfl⟩
      have hat : ((s[k]'hlt).toNat : Int) = (c : Int) := by rw [u8_at s k hlt, Hc.out]
      have hc : c < 256 := by rw [Hc.out]; exact by_getD_lt s k
      have HS : Hid (quoK (by_ s) (k + 1) = l ++ esc c) := by show _ = _; rw [Hc.out, HL.out]; exact quoK_succ _ _ (by rw [by_len]; exact hlt)
      have cut := slice_one s k hlt
      rw [← Hc.out] at cut
      have B92 : Hid ((⟨#[92]⟩ : ByteArray) = bs [92]) := rfl
      by_cases h1 : c = 34 ∨ c = 92
      · have HE : Hid (esc c = [92, c]) := by show _ = _; unfold esc; rw [if_pos h1]
        have f1 : ¬ 9223372036854775807 < (bs l).size + (⟨#[92]⟩ : ByteArray).size := by rw [bs_size]; show ¬ 9223372036854775807 < l.length + 1; omega
        have f2 : ¬ 9223372036854775807 < (bs l ++ ⟨#[92]⟩).size + (bs [c]).size := by rw [B92.out, bs_append]; exact fits _ _ 400002 1 (by simp; omega) (by simp) (by omega)
        have e1 : ((c : Int) == 34) = true ∨ ((c : Int) == 34) = false ∧ ((c : Int) == 92) = true := by
          rcases h1 with h | h
          · exact .inl (by rw [h]; rfl)
          · exact .inr ⟨by rw [h]; rfl, by rw [h]; rfl⟩
        clear h1
        rcases e1 with e1 | ⟨e1, e2⟩
        all_goals
          go_wp2
          go_roundw
          case rel => exact ⟨k + 1, l ++ esc c, by go_num, by omega, by rw [HE.out, B92.out, bs_append, bs_append]; simp, hup, by show _ = _; rw [HS.out]⟩
          case measure => simp [intOf]; omega
      · have e1 : ((c : Int) == 34) = false := by rw [beq_eq_false_iff_ne]; omega
        have e2 : ((c : Int) == 92) = false := by rw [beq_eq_false_iff_ne]; omega
        by_cases h3 : c = 10
        · have HE : Hid (esc c = [92, 110]) := by show _ = _; unfold esc; rw [if_neg h1, if_pos h3]
          have e3 : ((c : Int) == 10) = true := by rw [h3]; rfl
          have f1 : ¬ 9223372036854775807 < (bs l).size + (⟨#[92, 110]⟩ : ByteArray).size := by rw [bs_size]; show ¬ 9223372036854775807 < l.length + 2; omega
          have B2 : Hid ((⟨#[92, 110]⟩ : ByteArray) = bs [92, 110]) := rfl
          clear h1 h3
          go_wp2
          go_roundw
          case rel => exact ⟨k + 1, l ++ esc c, by go_num, by omega, by rw [HE.out, B2.out, bs_append], hup, by show _ = _; rw [HS.out]⟩
          case measure => simp [intOf]; omega
        · have e3 : ((c : Int) == 10) = false := by rw [beq_eq_false_iff_ne]; omega
          by_cases h4 : 32 ≤ c ∧ c ≤ 126
          · have HE : Hid (esc c = [c]) := by show _ = _; unfold esc; rw [if_neg h1, if_neg h3, if_pos (by unfold isP; simp; omega)]
            have d1 : decide ((32 : Int) ≤ c) = true := decide_eq_true (by omega)
            have d2 : decide ((c : Int) ≤ 126) = true := decide_eq_true (by omega)
            have f1 : ¬ 9223372036854775807 < (bs l).size + (bs [c]).size := fits _ _ 400001 1 hll (by simp) (by omega)
            clear h1 h3 h4
            go_wp2
            go_roundw
            case rel => exact ⟨k + 1, l ++ esc c, by go_num, by omega, by rw [HE.out, bs_append], hup, by show _ = _; rw [HS.out]⟩
            case measure => simp [intOf]; omega
          · have HE : Hid (esc c = [92, 120, hxc (c / 16), hxc (c % 16)]) := by show _ = _; unfold esc; rw [if_neg h1, if_neg h3, if_neg (by unfold isP; simp; omega)]
            have d1 : decide ((32 : Int) ≤ c) = false ∨ (decide ((32 : Int) ≤ c) = true ∧ decide ((c : Int) ≤ 126) = false) := by
              by_cases h5 : 32 ≤ c
              · exact .inr ⟨decide_eq_true (by omega), decide_eq_false (by omega)⟩
              · exact .inl (decide_eq_false (by omega))
            obtain ⟨x, Hx⟩ : ∃ x, Hid (x = c / 16) := ⟨_, rfl⟩
            obtain ⟨y, Hy⟩ : ∃ y, Hid (y = c % 16) := ⟨_, rfl⟩
            have hx : x < 16 := by rw [Hx.out]; omega
            have hy : y < 16 := by rw [Hy.out]; omega
            have es : (c : Int) / 16 = (x : Int) := by rw [Hx.out]; omega
            have ea : (c : Int) % 16 = (y : Int) := by rw [Hy.out]; omega
            have es' : (c : Int).tdiv 16 = (x : Int) := by rw [Int.tdiv_eq_ediv_of_nonneg (by omega)]; exact es
            have ea' : (c : Int).tmod 16 = (y : Int) := by rw [Int.tmod_eq_emod_of_nonneg (by omega)]; exact ea
            have hax := hexSl x hx
            have hay := hexSl y hy
            rw [← Hx.out, ← Hy.out] at HE
            have B2 : Hid ((⟨#[92, 120]⟩ : ByteArray) = bs [92, 120]) := rfl
            have f1 : ¬ 9223372036854775807 < (bs l).size + (⟨#[92, 120]⟩ : ByteArray).size := by rw [bs_size]; show ¬ 9223372036854775807 < l.length + 2; omega
            have f2 : ¬ 9223372036854775807 < (bs l ++ ⟨#[92, 120]⟩).size + (bs [hxc x]).size := by rw [B2.out, bs_append]; exact fits _ _ 400003 1 (by simp; omega) (by simp) (by omega)
            have f3 : ¬ 9223372036854775807 < (bs l ++ ⟨#[92, 120]⟩ ++ bs [hxc x]).size + (bs [hxc y]).size := by rw [B2.out, bs_append, bs_append]; exact fits _ _ 400004 1 (by simp; omega) (by simp) (by omega)
            have w1 : IntKind.u8.wrap ((x : Int) + 1) = (x : Int) + 1 := by exact wrap8 _ (by omega) (by omega)
            have w2 : IntKind.u8.wrap ((y : Int) + 1) = (y : Int) + 1 := by exact wrap8 _ (by omega) (by omega)
            clear h1 h3 h4
            rcases d1 with d1 | ⟨d1, d2⟩
            all_goals
              go_wp2
              go_quiet (fail)
              go_wp2
              go_roundw
              case rel => exact ⟨k + 1, l ++ esc c, by go_num, by omega, by rw [HE.out, B2.out, bs_append, bs_append, bs_append]; simp, hup.drewN _, by show _ = _; rw [HS.out]⟩
              case measure => simp [intOf]; omega
    · have HE : Hid (l ++ [34] = quo (by_ s)) := by show _ = _; rw [HL.out, show k = (by_ s).length by rw [by_len]; omega]; exact quoK_all _
      have f1 : ¬ 9223372036854775807 < (bs l).size + (⟨#[34]⟩ : ByteArray).size := by rw [bs_size]; show ¬ 9223372036854775807 < l.length + 1; omega
      go_wp2
      go_ret
      exact ⟨by rw [← HE.out, ← bs_append]; rfl, hup⟩
end Go.Proofs.YtnhncakkbfjdjaaDoor
