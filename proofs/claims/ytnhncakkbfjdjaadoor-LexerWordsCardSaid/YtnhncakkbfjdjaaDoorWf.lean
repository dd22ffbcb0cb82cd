/- Walks: integers. -/
import Derived.Test.YtnhncakkbfjdjaaDoorWd
namespace Go.Proofs.YtnhncakkbfjdjaaDoor
open Go.RowKit

theorem tok_int (c : Nat) (r : List Nat) (hD : isD c = true) : tok (c :: r) = match num (c :: r) with | some v => (⟨2, [], v, []⟩, cnt isD (c :: r)) | none => (tk0, 0) := by
  conv => lhs; unfold tok
  simp only [(dig_not hD).1, hD, if_true, if_false, Bool.false_eq_true]
  cases num (c :: r) <;> rfl
set_option maxRecDepth 100000 in
set_option maxHeartbeats 1000000 in
theorem readInt_any (s : ByteArray) (w : World) (hTab : Tabs w) (hs : s.size ≤ 100000) (c : Nat) (r : List Nat) (hl : by_ s = c :: r) (hD : isD c = true) : Calls Tryd.prog 52 #[.string s] w (RetTok w (tok (by_ s))) := by
  have HTab := hide hTab
  clear hTab
  obtain ⟨n, Hn⟩ : ∃ n, Hid (n = cnt isD (by_ s)) := ⟨_, rfl⟩
  have hn : n ≤ s.size := by rw [Hn.out, ← by_len]; exact cnt_le _ _
  have hn1 : 1 ≤ n := by rw [Hn.out, hl]; exact cnt_pos _ _ _ hD
  have h0 : 0 < s.size := by omega
  have hc0 : Hid ((by_ s).getD 0 0 = c) := by show _ = _; rw [hl]; rfl
  have hc256 : c < 256 := by rw [← hc0.out]; exact by_getD_lt s 0
  have hat : ((s[0]'h0).toNat : Int) = (c : Int) := by rw [u8_at s 0 h0, hc0.out]
  by_cases hz : c = 48 ∧ 1 < n
  · have HT : Hid (tok (by_ s) = (tk0, 0)) := by
      show _ = _
      have hnum : num (c :: r) = none := by
        unfold num
        rw [if_pos (Or.inl ⟨by simp [hz.1], by rw [← hl, ← Hn.out]; exact hz.2⟩)]
      rw [hl, tok_int c r hD, hnum]
    have e1 : ((c : Int) == 48) = true := by rw [hz.1]; rfl
    have e2 : decide ((1 : Int) < n) = true := decide_eq_true (by omega)
    clear hl hD hz
    go_enter Tryd.func52, Tryd.ntmps52
    go_wp2_with fail
    refine (cntD s _ hs).mono ?_
    rw [← Hn.out]
    rintro e w' ⟨rfl, rfl⟩
    go_wp2
    exact bodyPost_ret (v := .tuple #[.agg #[.int .i64 0, .string ⟨#[]⟩, .int .i64 0, .string ⟨#[]⟩, .int .i64 0], .int .i64 0]) (by simp [results, Tryd.results52, go_sem]) rfl ⟨by rw [HT.out]; rfl, (Up.refl _).alloc _⟩
  · have cut : ∀ W : World, (Instr.slice 9 (.string s) none (some (.int .i64 (n : Int))) none).run Tryd.prog W = .ok (.string (bs ((by_ s).take n))) W := fun W => by rw [slice_pre s n hn, ext_bs]; rfl
    have hds : ∀ x ∈ (by_ s).take n, isD x = true := by rw [Hn.out]; exact cnt_take _ _
    have hdn : (by_ s).take n ≠ [] := by
      intro e
      have h9 : ((by_ s).take n).length = n := by rw [List.length_take, by_len]; omega
      rw [e] at h9
      simp at h9
      omega
    have hdl : ((by_ s).take n).length ≤ 100000 := by rw [List.length_take, by_len]; omega
    by_cases hv : val10 ((by_ s).take n) < 9223372036854775808
    · have HT : Hid (tok (by_ s) = (⟨2, [], val10 ((by_ s).take n), []⟩, n)) := by
        show _ = _
        have hnum : num (c :: r) = some (val10 ((by_ s).take n)) := by
          unfold num
          rw [← hl, ← Hn.out, if_neg]
          rintro (⟨e, h1⟩ | h1)
          · exact hz ⟨by rw [hl] at e; simpa using e, h1⟩
          · omega
        rw [hl, tok_int c r hD, hnum, ← hl, ← Hn.out]
      obtain ⟨ds, Hds⟩ : ∃ x, Hid (x = (by_ s).take n) := ⟨_, rfl⟩
      rw [← Hds.out] at hds hdn hdl hv cut HT
      obtain ⟨v, Hv⟩ : ∃ x, Hid (x = val10 ds) := ⟨_, rfl⟩
      rw [← Hv.out] at HT
      have Hds2 := hide hds
      have Hdn := hide hdn
      clear hds hdn
      have Hz : ((c : Int) == 48) = false ∨ (((c : Int) == 48) = true ∧ decide ((1 : Int) < n) = false) := by
        by_cases h48 : c = 48
        · exact .inr ⟨by rw [h48]; rfl, decide_eq_false (by omega)⟩
        · exact .inl (by rw [beq_eq_false_iff_ne]; omega)
      clear hl hD
      rcases Hz with e1 | ⟨e1, e2⟩
      all_goals
        go_enter Tryd.func52, Tryd.ntmps52
        go_wp2_with fail
        refine (cntD s _ hs).mono ?_
        rw [← Hn.out]
        rintro e w' ⟨rfl, rfl⟩
        go_wp2_with fail
        refine (parse_ok ds Hdn.out Hds2.out hv hdl _).mono ?_
        rw [← Hv.out]
        rintro e w2 ⟨rfl, hu⟩
        obtain ⟨hc, hf⟩ := bcell hu
        have hz := up_alloc_size hu
        go_wp2
        exact bodyPost_ret (v := .tuple #[.agg #[.int .i64 2, .string ⟨#[]⟩, .int .i64 v, .string ⟨#[]⟩, .int .i64 0], .int .i64 n]) (by simp [results, Tryd.results52, go_sem, hc]) rfl ⟨by rw [HT.out]; rfl, up_set5 (up_alloc_up hu) (Nat.le_refl _) _ _ _ _ _⟩
    · have HT : Hid (tok (by_ s) = (tk0, 0)) := by
        show _ = _
        have hnum : num (c :: r) = none := by
          unfold num
          rw [← hl, ← Hn.out, if_pos (Or.inr (by omega))]
        rw [hl, tok_int c r hD, hnum]
      obtain ⟨ds, Hds⟩ : ∃ x, Hid (x = (by_ s).take n) := ⟨_, rfl⟩
      rw [← Hds.out] at hds hdn hdl hv cut
      have Hv := hide (show 9223372036854775808 ≤ val10 ds by omega)
      have Hds2 := hide hds
      have Hdn := hide hdn
      clear hds hdn hv
      have Hz : ((c : Int) == 48) = false ∨ (((c : Int) == 48) = true ∧ decide ((1 : Int) < n) = false) := by
        by_cases h48 : c = 48
        · exact .inr ⟨by rw [h48]; rfl, decide_eq_false (by omega)⟩
        · exact .inl (by rw [beq_eq_false_iff_ne]; omega)
      clear hl hD
      rcases Hz with e1 | ⟨e1, e2⟩
      all_goals
        go_enter Tryd.func52, Tryd.ntmps52
        go_wp2_with fail
        refine (cntD s _ hs).mono ?_
        rw [← Hn.out]
        rintro e w' ⟨rfl, rfl⟩
        go_wp2_with fail
        refine (parse_big ds Hdn.out Hds2.out Hv.out hdl _ (HTab.out.up ((Up.refl _).alloc _))).mono ?_
        rintro e w2 ⟨nn, tt, aa, rfl, hu⟩
        obtain ⟨hc, hf⟩ := bcell hu
        have hz := up_alloc_size hu
        go_wp2
        exact bodyPost_ret (v := .tuple #[.agg #[.int .i64 0, .string ⟨#[]⟩, .int .i64 0, .string ⟨#[]⟩, .int .i64 0], .int .i64 0]) (by simp [results, Tryd.results52, go_sem, hc]) rfl ⟨by rw [HT.out]; rfl, up_set5 (up_alloc_up hu) (Nat.le_refl _) _ _ _ _ _⟩
end Go.Proofs.YtnhncakkbfjdjaaDoor
