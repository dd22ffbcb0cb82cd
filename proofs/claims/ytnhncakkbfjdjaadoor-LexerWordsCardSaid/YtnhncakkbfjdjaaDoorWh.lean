/- Walks: string literals. -/
import Derived.Test.YtnhncakkbfjdjaaDoorWg
namespace Go.Proofs.YtnhncakkbfjdjaaDoor
open Go.RowKit

def accS (acc : List Nat) (j : Nat) (x : Option (List Nat × Nat)) : Option (List Nat × Nat) := x.map fun y => (acc ++ y.1, j + y.2)
theorem tok_str (r : List Nat) : tok (34 :: r) = match stg r with | some (m, k) => (⟨3, [], 0, m⟩, k + 1) | none => (tk0, 0) := by
  cases h : stg r <;> (unfold tok; simp only [show isL 34 = false from rfl, show isD 34 = false from rfl, h, if_true, if_false, Bool.false_eq_true])
set_option maxRecDepth 100000 in
set_option maxHeartbeats 2000000 in
theorem readString_any (s : ByteArray) (w : World) (hs : s.size ≤ 100000) (r : List Nat) (hl : by_ s = 34 :: r) : Calls Tryd.prog 53 #[.string s] w (RetTok w (tok (by_ s))) := by
  have h1 : 1 ≤ s.size := by rw [← by_len, hl]; simp
  have Hl := hide hl
  clear hl
  obtain ⟨x, Hx⟩ : ∃ x, Hid (x = tok (by_ s)) := ⟨_, rfl⟩
  rw [← Hx.out]
  go_enter Tryd.func53, Tryd.ntmps53
  go_wp2
  go_loopw [4, 5] (fun v i wr => ∃ (j m : Nat) (acc : List Nat), i = .int .i64 j ∧ 1 ≤ j ∧ j ≤ s.size ∧ m ≤ j ∧ Own wr (w.alloc (.cells #[.int .i64 0, .string ⟨#[]⟩, .int .i64 0, .string ⟨#[]⟩, .int .i64 0] 30)).heap.size v m acc ∧ Up (w.alloc (.cells #[.int .i64 0, .string ⟨#[]⟩, .int .i64 0, .string ⟨#[]⟩, .int .i64 0] 30)) wr ∧ Hid (stg r = accS acc (j - 1) (stg ((by_ s).drop j))) ∧ Hid (∀ x ∈ acc, x < 256)) (fun _ i _ => s.size - (intOf i).toNat)
  case atStart => exact ⟨1, 0, [], rfl, by omega, by omega, by omega, Own.nil _ _, Up.refl _, by show stg r = accS [] 0 _; rw [Hl.out]; unfold accS; simp, fun x hx => by cases hx⟩
  case round =>
    obtain ⟨j, m, acc, rfl, hj1, hj, hm, hown, hup, HS, HB⟩ := hrel
    obtain ⟨hc, hf⟩ := bcell hup
    have hz := up_alloc_size hup
    have hsz := hup.size
    by_cases hlt : j < s.size
    · have hjl : j < (by_ s).length := by rw [by_len]; exact hlt
      obtain ⟨c, Hc⟩ : ∃ c, Hid (c = (by_ s).getD j 0) := ⟨_, rfl⟩
      have hat : ((s[j]'hlt).toNat : Int) = (c : Int) := by rw [u8_at s j hlt, Hc.out]
      have hdrop : Hid ((by_ s).drop j = c :: (by_ s).drop (j + 1)) := by show _ = _; rw [Hc.out]; exact drop_at _ _ hjl
      by_cases hq : c = 34
      · have HT : Hid (x = (⟨3, [], 0, acc⟩, j + 1)) := by
          show _ = _
          rw [Hx.out, Hl.out, tok_str, HS.out, hdrop.out, hq, stg_quote]
          show ((⟨3, [], 0, acc ++ []⟩, j - 1 + 1 + 1) : Tk × Nat) = _
          rw [List.append_nil, show j - 1 + 1 + 1 = j + 1 by omega]
        obtain ⟨A, cp, rfl, _, hlim, _⟩ := hown.lim
        have hcv := run_str wr A m cp _ hlim hown.len HB.out
        have e34 : ((c : Int) == 34) = true := by rw [hq]; rfl
        clear hq
        go_wp2
        exact bodyPost_ret (v := .tuple #[.agg #[.int .i64 3, .string ⟨#[]⟩, .int .i64 0, .string (bs acc), .int .i64 0], .int .i64 ((j : Int) + 1)]) (by simp [results, Tryd.results53, go_sem, hc]) rfl ⟨by rw [HT.out]; rfl, up_set5 (up_alloc_up hup) (Nat.le_refl _) _ _ _ _ _⟩
      · have e34 : ((c : Int) == 34) = false := by rw [beq_eq_false_iff_ne]; omega
        obtain ⟨y, Hy⟩ : ∃ y, Hid (y = chr ((by_ s).drop j)) := ⟨_, rfl⟩
        have hyl := chr_size ((by_ s).drop j)
        rw [List.length_drop, by_len, ← Hy.out] at hyl
        have hylt : y.1 < 256 := by rw [Hy.out]; exact chr_lt _ (fun x hx => by_lt s x (List.mem_of_mem_drop hx))
        have hhead : ((by_ s).drop j).head? ≠ some 34 := by rw [hdrop.out]; simpa using hq
        have cut := slice_from s j hj
        obtain ⟨t, Ht⟩ : ∃ t, Hid (t = bs ((by_ s).drop j)) := ⟨_, rfl⟩
        rw [← Ht.out] at cut
        have hbt : Hid (by_ t = (by_ s).drop j) := by show _ = _; rw [Ht.out, by_bs_drop]
        have hts : t.size ≤ 100000 := by rw [← by_len, hbt.out, List.length_drop, by_len]; omega
        obtain ⟨y1, y2⟩ := y
        have Hylt : y1 < 256 := hylt
        have Hyl : y2 ≤ s.size - j := hyl.1
        clear hyl hylt
        by_cases h0 : y2 = 0
        · have HT : Hid (x = (tk0, 0)) := by
            show _ = _
            rw [Hx.out, Hl.out, tok_str, HS.out, stg_bad _ hhead (by rw [← Hy.out]; exact h0)]
            rfl
          have e0 : ((y2 : Int) == 0) = true := by rw [h0]; rfl
          clear hq hhead h0
          go_wp2_with fail
          refine (readChr_any t _ hts c _ (hbt.out.trans hdrop.out) (by intro e; rw [e] at e34; cases e34)).mono ?_
          rw [hbt.out, ← Hy.out]
          rintro e w2 ⟨rfl, hu2⟩
          obtain ⟨hc2, hf2⟩ := bcell (hup.trans hu2)
          have hz2 := up_alloc_size (hup.trans hu2)
          clear hc hf hz
          go_wp2
          exact bodyPost_ret (v := .tuple #[.agg #[.int .i64 0, .string ⟨#[]⟩, .int .i64 0, .string ⟨#[]⟩, .int .i64 0], .int .i64 0]) (by simp [results, Tryd.results53, go_sem, hc2]) rfl ⟨by rw [HT.out]; rfl, up_set5 (up_alloc_up (hup.trans hu2)) (Nat.le_refl _) _ _ _ _ _⟩
        · have e0 : ((y2 : Int) == 0) = false := by rw [beq_eq_false_iff_ne]; omega
          have hstep : Hid (stg ((by_ s).drop j) = accS [y1] y2 (stg ((by_ s).drop (j + y2)))) := by
            show _ = _
            rw [stg_step _ hhead (by rw [← Hy.out]; exact h0), ← Hy.out, List.drop_drop]
            rfl
          have hp2 : 1 ≤ y2 := by omega
          clear hq hhead h0
          go_wp2_with fail
          refine (readChr_any t _ hts c _ (hbt.out.trans hdrop.out) (by intro e; rw [e] at e34; cases e34)).mono ?_
          rw [hbt.out, ← Hy.out]
          rintro e w2 ⟨rfl, hu2⟩
          have hown2 := hown.up hu2
          have hup2 := hup.trans hu2
          have hsz2 := hup2.size
          clear hc hf hz hown
          go_wp2_with (at_builtin; refine wp_app rfl _ _ rfl _ _ _ _ rfl (hown2.allo _) (some ⟨w2.heap.size, 0, none⟩) 1 1 [y1] rfl rfl (lim_one _ _ _ rfl) (by omega) (by simp at hsz2 ⊢; omega) ?_; intro v1 w3 hown3 hgrow3)
          go_roundw
          case rel => exact ⟨j + y2, m + 1, acc ++ [y1], by go_num, by omega, by omega, by omega, hown3, (hown2.allo _).grownB (hup2.alloc _) hgrow3 (by simp at hsz2 ⊢; omega), by
            show _ = _
            rw [HS.out, hstep.out]
            unfold accS
            rw [Option.map_map]
            congr 1
            funext z
            simp only [Function.comp, Prod.mk.injEq, List.append_assoc, true_and]
            omega, fun z hz => by
              rcases List.mem_append.1 hz with h | h
              · exact HB.out z h
              · simp at h; subst h; exact Hylt⟩
          case measure => simp [intOf]; omega
    · have HT : Hid (x = (tk0, 0)) := by
        show _ = _
        rw [Hx.out, Hl.out, tok_str, HS.out, List.drop_eq_nil_of_le (by rw [by_len]; omega), stg_nil]
        rfl
      go_wp2
      exact bodyPost_ret (v := .tuple #[.agg #[.int .i64 0, .string ⟨#[]⟩, .int .i64 0, .string ⟨#[]⟩, .int .i64 0], .int .i64 0]) (by simp [results, Tryd.results53, go_sem, hc]) rfl ⟨by rw [HT.out]; rfl, up_set5 (up_alloc_up hup) (Nat.le_refl _) _ _ _ _ _⟩
end Go.Proofs.YtnhncakkbfjdjaaDoor
