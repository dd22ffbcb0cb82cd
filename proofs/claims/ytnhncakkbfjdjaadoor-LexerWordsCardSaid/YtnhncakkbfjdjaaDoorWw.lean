/- Walks: the tokens of a text, by the reference. -/
import Derived.Test.YtnhncakkbfjdjaaDoorWv
namespace Go.Proofs.YtnhncakkbfjdjaaDoor
open Go.RowKit

theorem rtokens_big (s : ByteArray) (w : World) (hs : 65536 < s.size) : Calls Tryd.prog 13 #[.string s] w (RetBig w) := by
  have d : decide ((65536 : Int) < s.size) = true := decide_eq_true (by omega)
  go_enter Tryd.func13, Tryd.ntmps13
  go_wp2
  go_ret3
  exact ⟨rfl, Up.refl _⟩
theorem preL_err {α : Type} (a : List α) (n : Nat) : preL a (.inl n) = .inl n := rfl
theorem preL_okn {α : Type} (a : List α) : preL a (.inr []) = .inr a := by simp [preL]
set_option maxRecDepth 100000 in
set_option maxHeartbeats 4000000 in
theorem rtokens_any (s : ByteArray) (w : World) (hs : s.size ≤ 65536) : Calls Tryd.prog 13 #[.string s] w (RetToks w w.heap.size (toks (by_ s) 1)) := by
  obtain ⟨l, Hl⟩ : ∃ l, Hid (l = by_ s) := ⟨_, rfl⟩
  obtain ⟨x, Hx⟩ : ∃ x, Hid (x = toks l 1) := ⟨_, rfl⟩
  have Hlt : Hid (∀ x ∈ l, x < 256) := by rw [Hl.out]; exact by_lt s
  have Hls : Hid (l.length = s.size) := by show _ = _; rw [Hl.out, by_len]
  have d : decide ((65536 : Int) < s.size) = false := decide_eq_false (by omega)
  rw [← Hl.out, ← Hx.out]
  go_enter Tryd.func13, Tryd.ntmps13
  go_wp2
  go_loopw [5, 6, 7] (fun v5 v6 v7 wr => ∃ (k m n : Nat) (ts : List (Tk × Nat)), k ≤ s.size ∧ v7 = .int .i64 k ∧ OwnT wr w.heap.size v5 m ts ∧ v6 = .int .i64 n ∧ Hid (x = preL ts (toks (l.drop k) n)) ∧ Up w wr ∧ m ≤ k ∧ n ≤ k + 1) (fun _ _ v7 _ => s.size - (intOf v7).toNat)
  case atStart => exact ⟨0, 0, 1, [], by omega, rfl, OwnT.nil _ _, rfl, by show x = _; rw [preL_nil, Hx.out]; rfl, Up.refl _, by omega, by omega⟩
  case round =>
    obtain ⟨k, m, n, ts, hk, rfl, hown, rfl, HX, hup, hm, hn⟩ := hrel
    have hsz := hup.size
    by_cases hlt : k < s.size
    · obtain ⟨c, Hc⟩ : ∃ c, Hid (c = l.getD k 0) := ⟨_, rfl⟩
      have hat : ((s[k]'hlt).toNat : Int) = (c : Int) := by rw [u8_at s k hlt, Hc.out, Hl.out]
      have hc : c < 256 := by rw [Hc.out, Hl.out]; exact by_getD_lt s k
      have hdrop : Hid (l.drop k = c :: l.drop (k + 1)) := by show _ = _; rw [Hc.out]; exact drop_at _ _ (by rw [Hls.out]; exact hlt)
      by_cases hW : isW c = true
      · have HW := hide hW
        by_cases h10 : c = 10
        · have HE : Hid (x = preL ts (toks (l.drop (k + 1)) (n + 1))) := by show x = _; rw [HX.out, hdrop.out, toks_white _ _ _ hW, if_pos h10]
          have e10 : ((c : Int) == 10) = true := by rw [h10]; rfl
          clear hW h10
          go_wp2_with fail
          refine (risW_any c _ hc).mono ?_
          rw [HW.out]
          rintro e w' ⟨rfl, rfl⟩
          go_wp2
          go_roundw
          case rel => exact ⟨k + 1, m, n + 1, ts, by omega, by go_num, hown, by go_num, HE.out, hup, by omega, by omega⟩
          case measure => simp [intOf]; omega
        · have HE : Hid (x = preL ts (toks (l.drop (k + 1)) n)) := by show x = _; rw [HX.out, hdrop.out, toks_white _ _ _ hW, if_neg h10]
          have e10 : ((c : Int) == 10) = false := by rw [beq_eq_false_iff_ne]; omega
          clear hW h10
          go_wp2_with fail
          refine (risW_any c _ hc).mono ?_
          rw [HW.out]
          rintro e w' ⟨rfl, rfl⟩
          go_wp2
          go_roundw
          case rel => exact ⟨k + 1, m, n, ts, by omega, by go_num, hown, rfl, HE.out, hup, by omega, by omega⟩
          case measure => simp [intOf]; omega
      · have HW := hide (Bool.eq_false_iff.2 hW)
        clear hW
        by_cases hcom : c = 47 ∧ k + 1 < s.size ∧ l.getD (k + 1) 0 = 47
        · have h0 : (l.drop k).head? = some 47 := by rw [hdrop.out, hcom.1]; rfl
          have h1 : (l.drop k).tail.head? = some 47 := by
            rw [hdrop.out, List.tail_cons, drop_at l (k + 1) (by rw [Hls.out]; exact hcom.2.1), hcom.2.2]; rfl
          have e47 : ((c : Int) == 47) = true := by rw [hcom.1]; rfl
          have hlt1 : k + 1 < s.size := hcom.2.1
          have d1 : decide ((k : Int) < (s.size : Int) - 1) = true := decide_eq_true (by omega)
          have hat1 : ((s[k + 1]'hlt1).toNat : Int) = 47 := by rw [u8_at s (k + 1) hlt1, ← Hl.out, hcom.2.2]; rfl
          obtain ⟨a, Ha⟩ : ∃ a, Hid (a = cnt (fun x => x != 10) (l.drop k)) := ⟨_, rfl⟩
          have ha1 : 1 ≤ a := by rw [Ha.out, hdrop.out]; exact cnt_pos _ _ _ (by rw [hcom.1]; rfl)
          have hak : k + a ≤ s.size := by rw [Ha.out, ← Hls.out]; have := cnt_le (fun x => x != 10) (l.drop k); rw [List.length_drop] at this; have := Hls.out; omega
          have HE : Hid (x = preL ts (toks (l.drop (k + a)) n)) := by show x = _; rw [HX.out, toks_comment _ _ h0 h1, List.drop_drop, ← Ha.out]
          clear hcom h0 h1
          go_wp2_with fail
          refine (risW_any c _ hc).mono ?_
          rw [HW.out]
          rintro e w' ⟨rfl, rfl⟩
          go_wp2
          go_loop [7] (fun v => ∃ j : Nat, v = .int .i64 j ∧ k ≤ j ∧ j ≤ k + a) (fun v => k + a - (intOf v).toNat)
          case atStart => exact ⟨k, rfl, by omega, by omega⟩
          case round =>
            obtain ⟨j, rfl, hj1, hj2⟩ := hrel
            by_cases hja : j < k + a
            · have hjs : j < s.size := by omega
              obtain ⟨f, Hf⟩ : ∃ f, Hid (f = l.getD j 0) := ⟨_, rfl⟩
              have hatj : ((s[j]'hjs).toNat : Int) = (f : Int) := by rw [u8_at s j hjs, Hf.out, Hl.out]
              have hf10 : f ≠ 10 := by
                have h := cnt_at (fun x => x != 10) (l.drop k) (j - k) (by rw [← Ha.out]; omega)
                rw [List.getD, List.getElem?_drop, show k + (j - k) = j by omega, ← List.getD, ← Hf.out] at h
                simpa using h
              have ef : ((f : Int) == 10) = false := by rw [beq_eq_false_iff_ne]; omega
              have ef' : ((f : Int) != 10) = true := by unfold bne; rw [ef]; rfl
              clear hf10
              go_wp2
              go_round
              case rel => exact ⟨j + 1, by go_num, by omega, by omega⟩
              case measure => simp [intOf]; omega
            · obtain rfl : j = k + a := by omega
              by_cases hjs : k + a < s.size
              · obtain ⟨f, Hf⟩ : ∃ f, Hid (f = l.getD (k + a) 0) := ⟨_, rfl⟩
                have hatj : ((s[k + a]'hjs).toNat : Int) = (f : Int) := by rw [u8_at s (k + a) hjs, Hf.out, Hl.out]
                have hf10 : f = 10 := by
                  have h := cnt_stop (fun x => x != 10) (l.drop k) (by rw [← Ha.out, List.length_drop, Hls.out]; omega)
                  rw [← Ha.out, List.getD, List.getElem?_drop, ← List.getD, ← Hf.out] at h
                  simpa using h
                have ef : ((f : Int) == 10) = true := by rw [hf10]; rfl
                have ef' : ((f : Int) != 10) = false := by unfold bne; rw [ef]; rfl
                clear hf10
                go_wp2
                go_roundw
                case rel => exact ⟨k + a, m, n, ts, by omega, by go_num, hown, rfl, HE.out, hup, by omega, by omega⟩
                case measure => simp [intOf]; omega
              · go_wp2
                go_roundw
                case rel => exact ⟨k + a, m, n, ts, by omega, by go_num, hown, rfl, HE.out, hup, by omega, by omega⟩
                case measure => simp [intOf]; omega
        · have HB : Hid (Begins (l.drop k)) := by
            refine ⟨by rw [hdrop.out]; simp, by rw [hdrop.out]; exact HW.out, ?_⟩
            rintro ⟨h0, h1⟩
            rw [hdrop.out] at h0 h1
            simp at h0
            rw [List.tail_cons] at h1
            rcases Nat.lt_or_ge (k + 1) s.size with h | h
            · rw [drop_at l (k + 1) (by rw [Hls.out]; exact h)] at h1
              exact hcom ⟨h0, h, by simpa using h1⟩
            · rw [List.drop_eq_nil_of_le (by rw [Hls.out]; exact h)] at h1; cases h1
          have E : ((c : Int) == 47) = false ∨ (((c : Int) == 47) = true ∧ decide ((k : Int) < (s.size : Int) - 1) = false) ∨ (((c : Int) == 47) = true ∧ decide ((k : Int) < (s.size : Int) - 1) = true ∧ ∃ h1 : k + 1 < s.size, ∃ f : Nat, ((s[k + 1]'h1).toNat : Int) = (f : Int) ∧ ((f : Int) == 47) = false) := by
            by_cases c47 : c = 47
            · by_cases h1 : k + 1 < s.size
              · refine .inr (.inr ⟨by rw [c47]; rfl, decide_eq_true (by omega), h1, l.getD (k + 1) 0, by rw [u8_at s (k + 1) h1, Hl.out], ?_⟩)
                rw [beq_eq_false_iff_ne]
                intro e
                exact hcom ⟨c47, h1, by omega⟩
              · exact .inr (.inl ⟨by rw [c47]; rfl, decide_eq_false (by omega)⟩)
            · exact .inl (by rw [beq_eq_false_iff_ne]; omega)
          clear hcom
          have hks : k ≤ s.size := hk
          have cut := slice_from s k hks
          obtain ⟨t, Ht⟩ : ∃ t, Hid (t = bs (l.drop k)) := ⟨_, rfl⟩
          rw [← Hl.out, ← Ht.out] at cut
          have hbt : Hid (by_ t = l.drop k) := by show _ = _; rw [Ht.out]; exact by_bs _ (fun x hx => Hlt.out x (List.mem_of_mem_drop hx))
          have hts : t.size + k = s.size := by rw [← by_len, hbt.out, List.length_drop, Hls.out]; omega
          obtain ⟨y, Hy⟩ : ∃ y, Hid (y = tok (l.drop k)) := ⟨_, rfl⟩
          have hysz : y.2 ≤ s.size - k := by rw [Hy.out]; have := tok_size (l.drop k); rw [List.length_drop, Hls.out] at this; exact this
          obtain ⟨y1, sz⟩ := y
          have hsz : sz ≤ s.size - k := hysz
          clear hysz
          have hts1 : t.size ≤ 65536 := by omega
          have hts2 : 0 < t.size := by omega
          have Hts := hide hts
          clear hts
          by_cases h0 : sz = 0
          · have HE : Hid (x = .inl n) := by
              show x = _
              rw [HX.out, toks_bad _ _ HB.out (by rw [← Hy.out]; exact h0)]
              rfl
            have e0 : ((sz : Int) == 0) = true := by rw [h0]; rfl
            clear h0
            rcases E with e47 | ⟨e47, d1⟩ | ⟨e47, d1, hlt1, f, hat1, ef⟩
            all_goals
              go_wp2_with fail
              refine (risW_any c _ hc).mono ?_
              rw [HW.out]
              rintro e w' ⟨rfl, rfl⟩
              go_wp2_with fail
              refine (rtoken_any t _ (by omega) (by omega)).mono ?_
              rw [hbt.out, ← Hy.out]
              rintro e w3 ⟨tt, rfl, Htt, hu3⟩
              have Htt := hide Htt
              obtain ⟨kd, tx, nn, st⟩ := tt
              unfold tkv
              have hup3 := hup.trans hu3
              have hown3 := hown.up hu3
              have hz3 := hup3.size
              go_wp2
              go_ret3
              exact retToks_err HE.out rfl (hup3.alloc _)
          · have HE : Hid (x = preL (ts ++ [(y1, n)]) (toks (l.drop (k + sz)) n)) := by
              show x = _
              rw [HX.out, toks_tok _ _ HB.out (by rw [← Hy.out]; exact h0), ← Hy.out, preL_preL, List.drop_drop]
            have e0 : ((sz : Int) == 0) = false := by rw [beq_eq_false_iff_ne]; omega
            have hsz1 : 1 ≤ sz := by omega
            have H0 := hide h0
            clear h0
            rcases E with e47 | ⟨e47, d1⟩ | ⟨e47, d1, hlt1, f, hat1, ef⟩
            all_goals
              go_wp2_with fail
              refine (risW_any c _ hc).mono ?_
              rw [HW.out]
              rintro e w' ⟨rfl, rfl⟩
              go_wp2_with fail
              refine (rtoken_any t _ (by omega) (by omega)).mono ?_
              rw [hbt.out, ← Hy.out]
              rintro e w3 ⟨tt, rfl, Htt, hu3⟩
              have Htt := hide Htt
              obtain ⟨kd, tx, nn, st⟩ := tt
              unfold tkv
              have hup3 := hup.trans hu3
              have hown3 := hown.up hu3
              have hz3 := hup3.size
              obtain rfl : (⟨kd, tx, nn, st⟩ : Tk) = y1 := Htt.out H0.out
              go_wp2_with (at_builtin; refine wp_appT rfl _ _ rfl w.heap.size _ _ _ rfl ((hown3.allo _).allo _) ⟨w3.heap.size + 1, 0, none⟩ 1 (⟨kd, tx, nn, st⟩, n) rfl (cells_new5b w3 _ _ _ _ (by simp [tkcs])) (by omega) (by simp; omega) ?_; intro v1 w4 hown4 hgrow4)
              go_roundw
              case rel => exact ⟨k + sz, m + 1, n, _, by omega, by go_num, hown4, rfl, HE.out, ((hown3.allo _).allo _).grownB ((hup3.alloc _).alloc _) hgrow4 (by simp; omega), by omega, by omega⟩
              case measure => simp [intOf]; omega
    · have HE : Hid (x = .inr ts) := by show x = _; rw [HX.out, List.drop_eq_nil_of_le (by rw [Hls.out]; omega), toks_nil, preL_okn]
      go_wp2
      go_ret3
      exact retToks_ok HE.out rfl hown hup
end Go.Proofs.YtnhncakkbfjdjaaDoor
