/- Walks: the token at the beginning, by the reference, the second part. -/
import Derived.Test.YtnhncakkbfjdjaaDoorWr
namespace Go.Proofs.YtnhncakkbfjdjaaDoor
open Go.RowKit

theorem tok_numR (c : Nat) (r : List Nat) (hD : isD c = true) : (tok (c :: r)).2 = (numR (c :: r)).2 ∧ ((tok (c :: r)).2 ≠ 0 → (tok (c :: r)).1 = ⟨2, [], (numR (c :: r)).1, []⟩) := by
  rw [tok_int c r hD]
  unfold numR
  cases num (c :: r) with
  | none => exact ⟨rfl, fun h => absurd rfl h⟩
  | some v => exact ⟨rfl, fun _ => rfl⟩
theorem tok_strR (r : List Nat) : (tok (34 :: r)).2 = (strR (34 :: r)).2 ∧ ((tok (34 :: r)).2 ≠ 0 → (tok (34 :: r)).1 = ⟨3, [], 0, (strR (34 :: r)).1⟩) := by
  rw [tok_str, strR_quote]
  cases stg r with
  | none => exact ⟨rfl, fun h => absurd rfl h⟩
  | some v => exact ⟨rfl, fun _ => rfl⟩
set_option maxRecDepth 100000 in
set_option maxHeartbeats 2000000 in
theorem rtoken_any (s : ByteArray) (w : World) (hs : s.size ≤ 100000) (h0 : 0 < s.size) : Calls Tryd.prog 32 #[.string s] w (RetTokR w (tok (by_ s))) := by
  match hl : by_ s with
  | [] => rw [← by_len, hl] at h0; simp at h0
  | z :: r =>
  by_cases hL : isL z = true
  · have h := rtoken_name s w hs z r hl hL
    rw [hl] at h
    exact h
  · have hz : z < 256 := by_lt s z (by rw [hl]; simp)
    have a0 : ((s[0]'h0).toNat : Int) = (z : Int) := by rw [u8_at s 0 h0, hl]; rfl
    have HL := hide (Bool.eq_false_iff.2 hL)
    clear hL
    by_cases hD : isD z = true
    · have HD := hide hD
      obtain ⟨x, Hx⟩ : ∃ x, Hid (x = tok (z :: r)) := ⟨_, rfl⟩
      obtain ⟨y, Hy⟩ : ∃ y, Hid (y = numR (by_ s)) := ⟨_, rfl⟩
      have Hxy : Hid (x.2 = y.2 ∧ (x.2 ≠ 0 → x.1 = ⟨2, [], (y.1 : Nat), []⟩)) := by show _ ∧ _; rw [Hx.out, Hy.out, hl]; exact tok_numR z r hD
      rw [← Hx.out]
      obtain ⟨y1, y2⟩ := y
      obtain ⟨x1, x2⟩ := x
      clear hl hD
      go_enter Tryd.func32, Tryd.ntmps32
      go_wp2_with fail
      refine (risL_any z _ hz).mono ?_
      rw [HL.out]
      rintro e w' ⟨rfl, rfl⟩
      go_wp2_with fail
      refine (risD_any z _ hz).mono ?_
      rw [HD.out]
      rintro e w' ⟨rfl, rfl⟩
      go_wp2_with fail
      refine (rinteger_any s _ hs h0).mono ?_
      rw [← Hy.out]
      rintro e w' ⟨rfl, rfl⟩
      go_wp2
      exact bodyPost_ret (v := .tuple #[.agg #[.int .i64 2, .string ⟨#[]⟩, .int .i64 (y1 : Int), .string ⟨#[]⟩, .int .i64 0], .int .i64 (y2 : Int)]) (by simp [results, Tryd.results32, go_sem]) rfl ⟨⟨2, [], y1, []⟩, by rw [show x2 = y2 from Hxy.out.1]; rfl, fun h => (Hxy.out.2 h).symm, (Up.refl _).alloc _⟩
    · have HD := hide (Bool.eq_false_iff.2 hD)
      clear hD
      by_cases hq : z = 34
      · subst hq
        have a0 : ((s[0]'h0).toNat : Int) = 34 := a0
        obtain ⟨x, Hx⟩ : ∃ x, Hid (x = tok (34 :: r)) := ⟨_, rfl⟩
        obtain ⟨y, Hy⟩ : ∃ y, Hid (y = strR (by_ s)) := ⟨_, rfl⟩
        have Hxy : Hid (x.2 = y.2 ∧ (x.2 ≠ 0 → x.1 = ⟨3, [], 0, y.1⟩)) := by show _ ∧ _; rw [Hx.out, Hy.out, hl]; exact tok_strR r
        rw [← Hx.out]
        obtain ⟨y1, y2⟩ := y
        obtain ⟨x1, x2⟩ := x
        clear hl
        go_enter Tryd.func32, Tryd.ntmps32
        go_wp2_with fail
        refine (risL_any 34 _ (by decide)).mono ?_
        rw [HL.out]
        rintro e w' ⟨rfl, rfl⟩
        go_wp2_with fail
        refine (risD_any 34 _ (by decide)).mono ?_
        rw [HD.out]
        rintro e w' ⟨rfl, rfl⟩
        go_wp2_with fail
        refine (rstr_any s _ hs).mono ?_
        rw [← Hy.out]
        rintro e w2 ⟨rfl, hu⟩
        obtain ⟨hcc, hf⟩ := bcell hu
        have hz := up_alloc_size hu
        go_wp2
        exact bodyPost_ret (v := .tuple #[.agg #[.int .i64 3, .string ⟨#[]⟩, .int .i64 0, .string (bs y1), .int .i64 0], .int .i64 (y2 : Int)]) (by simp [results, Tryd.results32, go_sem, hcc]) rfl ⟨⟨3, [], 0, y1⟩, by rw [show x2 = y2 from Hxy.out.1]; rfl, fun h => (Hxy.out.2 h).symm, up_set5 (up_alloc_up hu) (Nat.le_refl _) _ _ _ _ _⟩
      · have e34 : ((z : Int) == 34) = false := by rw [beq_eq_false_iff_ne]; omega
        obtain ⟨x, Hx⟩ : ∃ x, Hid (x = tok (z :: r)) := ⟨_, rfl⟩
        have HX : Hid (x = if isS z = true then (⟨4, [z], 0, []⟩, 1) else (tk0, 0)) := by
          show _ = _
          rw [Hx.out]
          unfold tok
          simp only [HL.out, HD.out, hq, if_false, Bool.false_eq_true]
        rw [← Hx.out]
        have cut : ∀ W : World, (Instr.slice 9 (.string s) none (some (.int .i64 1)) none).run Tryd.prog W = .ok (.string (bs [z])) W := fun W => by
          have h := slice_pre s 1 h0 W
          rw [ext_bs, hl] at h
          exact h
        clear hl hq
        go_enter Tryd.func32, Tryd.ntmps32
        go_wp2_with fail
        refine (risL_any z _ hz).mono ?_
        rw [HL.out]
        rintro e w' ⟨rfl, rfl⟩
        go_wp2_with fail
        refine (risD_any z _ hz).mono ?_
        rw [HD.out]
        rintro e w' ⟨rfl, rfl⟩
        go_wp2
        go_loopw [9] (fun i wr => ∃ k : Nat, i = .int .i64 k ∧ k ≤ 18 ∧ Hid (∀ j, j < k → symL.getD j 0 ≠ z) ∧ Up (w.alloc (.cells #[.int .i64 0, .string ⟨#[]⟩, .int .i64 0, .string ⟨#[]⟩, .int .i64 0] 30)) wr) (fun i _ => 18 - (intOf i).toNat)
        case atStart => exact ⟨0, rfl, by omega, fun j hj => by omega, Up.refl _⟩
        case round =>
          obtain ⟨k, rfl, hk, H, hup⟩ := hrel
          obtain ⟨hcc, hf⟩ := bcell hup
          have hzz := up_alloc_size hup
          by_cases hlt : k < 18
          · have hlt' : (k : Int) < 18 := by omega
            have hax := symAt k hlt
            by_cases he : symL.getD k 0 = z
            · have e1 : (((symL.getD k 0 : Nat) : Int) == (z : Int)) = true := by rw [he]; simp
              have HT : Hid (x = (⟨4, [z], 0, []⟩, 1)) := by show _ = _; rw [HX.out, if_pos ((symS z).2 ⟨k, hlt, he⟩)]
              obtain ⟨y, Hy⟩ : ∃ y, Hid (y = symL.getD k 0) := ⟨_, rfl⟩
              rw [← Hy.out] at hax e1
              clear he
              go_wp2
              go_quiet (fail)
              go_wp2
              exact bodyPost_ret (v := .tuple #[.agg #[.int .i64 4, .string (bs [z]), .int .i64 0, .string ⟨#[]⟩, .int .i64 0], .int .i64 1]) (by simp [results, Tryd.results32, go_sem, hcc]) rfl ⟨⟨4, [z], 0, []⟩, by rw [HT.out]; rfl, by rw [HT.out]; intro _; rfl, up_set5 (up_alloc_up (hup.drewN _)) (Nat.le_refl _) _ _ _ _ _⟩
            · have HK : Hid (∀ j, j < k + 1 → symL.getD j 0 ≠ z) := fun j hj => by rcases Nat.lt_or_ge j k with h | h; exact H.out j h; rw [show j = k by omega]; exact he
              have e1 : (((symL.getD k 0 : Nat) : Int) == (z : Int)) = false := by rw [beq_eq_false_iff_ne]; omega
              obtain ⟨y, Hy⟩ : ∃ y, Hid (y = symL.getD k 0) := ⟨_, rfl⟩
              rw [← Hy.out] at hax e1
              clear he
              go_wp2
              go_quiet (fail)
              go_wp2
              go_roundw
              case rel => exact ⟨k + 1, by go_num, by omega, HK, hup.drewN _⟩
              case measure => simp [intOf]; omega
          · have hlt' : ¬ (k : Int) < 18 := by omega
            have HT : Hid (x = (tk0, 0)) := by
              show _ = _
              rw [HX.out, if_neg]
              intro h
              obtain ⟨n, hn, e⟩ := (symS z).1 h
              exact H.out n (by omega) e
            go_wp2
            exact bodyPost_ret (v := .tuple #[.agg #[.int .i64 0, .string ⟨#[]⟩, .int .i64 0, .string ⟨#[]⟩, .int .i64 0], .int .i64 0]) (by simp [results, Tryd.results32, go_sem, hcc]) rfl ⟨tk0, by rw [HT.out]; rfl, by rw [HT.out]; intro h; exact absurd rfl h, up_set5 (up_alloc_up hup) (Nat.le_refl _) _ _ _ _ _⟩
end Go.Proofs.YtnhncakkbfjdjaaDoor
