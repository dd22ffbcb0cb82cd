/- Walks: the token at the beginning, by the reference. -/
import Derived.Test.YtnhncakkbfjdjaaDoorWq
namespace Go.Proofs.YtnhncakkbfjdjaaDoor
open Go.RowKit

/-- A function that returns a token and its size; the token counts where the size is not 0. -/
def RetTokR (w : World) (x : Tk × Nat) (e : Ending) (w' : World) : Prop := ∃ t, e = .returned (.tuple #[tkv t 0, .int .i64 (x.2 : Int)]) ∧ (x.2 ≠ 0 → t = x.1) ∧ Up w w'
theorem symAt : ∀ n : Nat, (h : n < 18) → (((⟨#[123, 125, 40, 41, 91, 93, 44, 59, 58, 61, 47, 43, 45, 60, 62, 124, 38, 42]⟩ : ByteArray)[n]'h).toNat : Int) = ((symL.getD n 0 : Nat) : Int) := by decide +kernel
theorem symS (c : Nat) : isS c = true ↔ ∃ n, n < 18 ∧ symL.getD n 0 = c := by
  unfold isS
  rw [List.contains_iff_mem, List.mem_iff_getElem]
  constructor
  · rintro ⟨n, h, e⟩
    exact ⟨n, h, by rw [List.getD, List.getElem?_eq_getElem h]; exact e⟩
  · rintro ⟨n, h, e⟩
    have h' : n < symL.length := h
    exact ⟨n, h', by rw [List.getD, List.getElem?_eq_getElem h'] at e; exact e⟩
set_option maxRecDepth 100000 in
set_option maxHeartbeats 2000000 in
theorem rtoken_name (s : ByteArray) (w : World) (hs : s.size ≤ 100000) (z : Nat) (r : List Nat) (hl : by_ s = z :: r) (hL : isL z = true) : Calls Tryd.prog 32 #[.string s] w (RetTokR w (tok (by_ s))) := by
  obtain ⟨x, Hx⟩ : ∃ x, Hid (x = tok (by_ s)) := ⟨_, rfl⟩
  rw [← Hx.out]
  have h0 : 0 < s.size := by rw [← by_len, hl]; simp
  have hz : z < 256 := by_lt s z (by rw [hl]; simp)
  have a0 : ((s[0]'h0).toNat : Int) = (z : Int) := by rw [u8_at s 0 h0, hl]; rfl
  obtain ⟨n, Hn⟩ : ∃ n, Hid (n = cnt isLD (by_ s)) := ⟨_, rfl⟩
  have hn : n ≤ s.size := by rw [Hn.out, ← by_len]; exact cnt_le _ _
  have cut : ∀ W : World, (Instr.slice 9 (.string s) none (some (.int .i64 (n : Int))) none).run Tryd.prog W = .ok (.string (bs ((by_ s).take n))) W := fun W => by rw [slice_pre s n hn, ext_bs]; rfl
  have HX : Hid (x = if n ≤ 24 then (⟨1, (by_ s).take n, 0, []⟩, n) else (tk0, 0)) := by
    show _ = _
    rw [Hx.out, Hn.out, hl]
    unfold tok
    simp only [hL, if_true]
  have HL := hide hL
  clear hl hL
  go_enter Tryd.func32, Tryd.ntmps32
  go_wp2_with fail
  refine (risL_any z _ hz).mono ?_
  rw [HL.out]
  rintro e w' ⟨rfl, rfl⟩
  go_wp2
  go_loop [4] (fun i => ∃ k : Nat, i = .int .i64 k ∧ k ≤ s.size ∧ Hid (∀ j, j < k → isLD ((by_ s).getD j 0) = true)) (fun i => s.size - (intOf i).toNat)
  case atStart => exact ⟨0, rfl, by omega, fun j hj => by omega⟩
  case round =>
    obtain ⟨k, rfl, hk, H⟩ := hrel
    by_cases hlt : k < s.size
    · obtain ⟨c, Hc⟩ : ∃ c, Hid (c = (by_ s).getD k 0) := ⟨_, rfl⟩
      have hat : ((s[k]'hlt).toNat : Int) = (c : Int) := by rw [u8_at s k hlt, Hc.out]
      have hc : c < 256 := by rw [Hc.out]; exact by_getD_lt s k
      by_cases hL : isL c = true
      · have HLc := hide hL
        have HK : Hid (∀ j, j < k + 1 → isLD ((by_ s).getD j 0) = true) := fun j hj => by rcases Nat.lt_or_ge j k with h | h; exact H.out j h; rw [show j = k by omega, ← Hc.out]; exact isL_LD hL
        clear hL
        go_wp2_with fail
        refine (risL_any c _ hc).mono ?_
        rw [HLc.out]
        rintro e w' ⟨rfl, rfl⟩
        go_wp2
        go_round
        case rel => exact ⟨k + 1, by go_num, by omega, HK⟩
        case measure => simp [intOf]; omega
      · have HLc := hide (Bool.eq_false_iff.2 hL)
        clear hL
        by_cases hD : isD c = true
        · have HDc := hide hD
          have HK : Hid (∀ j, j < k + 1 → isLD ((by_ s).getD j 0) = true) := fun j hj => by rcases Nat.lt_or_ge j k with h | h; exact H.out j h; rw [show j = k by omega, ← Hc.out]; unfold isLD; rw [hD]; simp
          clear hD
          go_wp2_with fail
          refine (risL_any c _ hc).mono ?_
          rw [HLc.out]
          rintro e w' ⟨rfl, rfl⟩
          go_wp2_with fail
          refine (risD_any c _ hc).mono ?_
          rw [HDc.out]
          rintro e w' ⟨rfl, rfl⟩
          go_wp2
          go_round
          case rel => exact ⟨k + 1, by go_num, by omega, HK⟩
          case measure => simp [intOf]; omega
        · have HDc := hide (Bool.eq_false_iff.2 hD)
          obtain rfl : k = n := by rw [Hn.out]; exact (cnt_eq isLD (by_ s) k (by rw [by_len]; omega) H.out (fun _ => by rw [← Hc.out]; unfold isLD; rw [HLc.out, HDc.out]; rfl)).symm
          clear hD
          by_cases h24 : k ≤ 24
          · have HT : Hid (x = (⟨1, (by_ s).take k, 0, []⟩, k)) := by show _ = _; rw [HX.out, if_pos h24]
            have d24 : decide ((24 : Int) < k) = false := decide_eq_false (by omega)
            go_wp2_with fail
            refine (risL_any c _ hc).mono ?_
            rw [HLc.out]
            rintro e w' ⟨rfl, rfl⟩
            go_wp2_with fail
            refine (risD_any c _ hc).mono ?_
            rw [HDc.out]
            rintro e w' ⟨rfl, rfl⟩
            go_wp2
            exact bodyPost_ret (v := .tuple #[.agg #[.int .i64 1, .string (bs ((by_ s).take k)), .int .i64 0, .string ⟨#[]⟩, .int .i64 0], .int .i64 (k : Int)]) (by simp [results, Tryd.results32, go_sem]) rfl ⟨⟨1, (by_ s).take k, 0, []⟩, by rw [HT.out]; rfl, by rw [HT.out]; intro _; rfl, (Up.refl _).alloc _⟩
          · have HT : Hid (x = (tk0, 0)) := by show _ = _; rw [HX.out, if_neg h24]
            have d24 : decide ((24 : Int) < k) = true := decide_eq_true (by omega)
            go_wp2_with fail
            refine (risL_any c _ hc).mono ?_
            rw [HLc.out]
            rintro e w' ⟨rfl, rfl⟩
            go_wp2_with fail
            refine (risD_any c _ hc).mono ?_
            rw [HDc.out]
            rintro e w' ⟨rfl, rfl⟩
            go_wp2
            exact bodyPost_ret (v := .tuple #[.agg #[.int .i64 0, .string ⟨#[]⟩, .int .i64 0, .string ⟨#[]⟩, .int .i64 0], .int .i64 0]) (by simp [results, Tryd.results32, go_sem]) rfl ⟨tk0, by rw [HT.out]; rfl, by rw [HT.out]; intro h; exact absurd rfl h, (Up.refl _).alloc _⟩
    · have hkn : n = s.size := by rw [Hn.out]; exact cnt_eq isLD (by_ s) s.size (by rw [by_len]; omega) (fun j hj => H.out j (by omega)) (fun h => by rw [by_len] at h; omega)
      obtain rfl : k = n := by omega
      clear hkn
      by_cases h24 : k ≤ 24
      · have HT : Hid (x = (⟨1, (by_ s).take k, 0, []⟩, k)) := by show _ = _; rw [HX.out, if_pos h24]
        have d24 : decide ((24 : Int) < k) = false := decide_eq_false (by omega)
        go_wp2
        exact bodyPost_ret (v := .tuple #[.agg #[.int .i64 1, .string (bs ((by_ s).take k)), .int .i64 0, .string ⟨#[]⟩, .int .i64 0], .int .i64 (k : Int)]) (by simp [results, Tryd.results32, go_sem]) rfl ⟨⟨1, (by_ s).take k, 0, []⟩, by rw [HT.out]; rfl, by rw [HT.out]; intro _; rfl, (Up.refl _).alloc _⟩
      · have HT : Hid (x = (tk0, 0)) := by show _ = _; rw [HX.out, if_neg h24]
        have d24 : decide ((24 : Int) < k) = true := decide_eq_true (by omega)
        go_wp2
        exact bodyPost_ret (v := .tuple #[.agg #[.int .i64 0, .string ⟨#[]⟩, .int .i64 0, .string ⟨#[]⟩, .int .i64 0], .int .i64 0]) (by simp [results, Tryd.results32, go_sem]) rfl ⟨tk0, by rw [HT.out]; rfl, by rw [HT.out]; intro h; exact absurd rfl h, (Up.refl _).alloc _⟩
end Go.Proofs.YtnhncakkbfjdjaaDoor
