/- Walks: the token at the beginning; what consists of one token. -/
import Derived.Test.YtnhncakkbfjdjaaDoorWh
import Derived.Lib.Bytes
namespace Go.Proofs.YtnhncakkbfjdjaaDoor
open Go.RowKit

theorem toList_ne (s : ByteArray) (h : 0 < s.size) : s.toList.isEmpty = false ∧ ¬ s.toList = [] := by
  have e : s.toList = s.data.toList := Lib.toList_data s
  have h2 : s.data.toList ≠ [] := by
    intro h3
    have h4 : s.data.toList.length = s.size := by rw [Array.length_toList]; rfl
    rw [h3] at h4
    simp at h4
    omega
  rw [e]
  exact ⟨by simpa using h2, h2⟩
theorem toList_nil (s : ByteArray) (h : s.size = 0) : s.toList.isEmpty = true ∧ s.toList = [] := by
  have e : s.toList = s.data.toList := Lib.toList_data s
  have h2 : s.data.toList = [] := List.eq_nil_of_length_eq_zero (by rw [Array.length_toList]; exact h)
  rw [e, h2]
  exact ⟨rfl, rfl⟩
theorem symIdx (c : Nat) (w : World) (hc : c < 256) : ∃ z : Int, decide (0 ≤ z) = isS c ∧ Calls Tryd.prog 54 #[.string ⟨#[123, 125, 40, 41, 91, 93, 44, 59, 58, 61, 47, 43, 45, 60, 62, 124, 38, 42]⟩, .int .u8 (c : Int)] w fun e w' => e = .returned (.int .i64 z) ∧ w = w' := by
  refine ⟨_, symI c hc, (Tryd.strings_IndexByte _ (c : Int) w).mono ?_⟩
  rintro e w' ⟨rfl, rfl⟩
  exact ⟨rfl, rfl⟩
set_option maxRecDepth 100000 in
set_option maxHeartbeats 2000000 in
theorem readToken_any (s : ByteArray) (w : World) (hTab : Tabs w) (hs : s.size ≤ 100000) : Calls Tryd.prog 30 #[.string s] w (RetTok w (tok (by_ s))) := by
  have HTab := hide hTab
  clear hTab
  obtain ⟨x, Hx⟩ : ∃ x, Hid (x = tok (by_ s)) := ⟨_, rfl⟩
  rw [← Hx.out]
  match hl : by_ s with
  | [] =>
    have h0 : s.size = 0 := by rw [← by_len, hl]; rfl
    obtain ⟨e1, e2⟩ := toList_nil s h0
    have HT : Hid (x = (tk0, 0)) := by show _ = _; rw [Hx.out, hl]; rfl
    clear hl h0
    go_enter Tryd.func30, Tryd.ntmps30
    go_wp2
    exact bodyPost_ret (v := .tuple #[.agg #[.int .i64 0, .string ⟨#[]⟩, .int .i64 0, .string ⟨#[]⟩, .int .i64 0], .int .i64 0]) (by simp [results, Tryd.results30, go_sem]) rfl ⟨by rw [HT.out]; rfl, (Up.refl _).alloc _⟩
  | c :: r =>
    have h0 : 0 < s.size := by rw [← by_len, hl]; simp
    have hc : c < 256 := by_lt s c (by rw [hl]; simp)
    have a0 : ((s[0]'h0).toNat : Int) = (c : Int) := by rw [u8_at s 0 h0, hl]; rfl
    obtain ⟨e1, e2⟩ := toList_ne s h0
    have Hl := hide hl
    clear hl
    by_cases hL : isL c = true
    · have HL := hide hL
      clear hL
      go_enter Tryd.func30, Tryd.ntmps30
      go_wp2_with fail
      refine (isL_any c _ hc).mono ?_
      rw [HL.out]
      rintro e w' ⟨rfl, rfl⟩
      go_wp2_with fail
      refine (readName_any s _ hs c r Hl.out HL.out).mono ?_
      rw [← Hx.out]
      rintro e w2 ⟨rfl, hu⟩
      obtain ⟨⟨kd, tx, nn, st⟩, sz⟩ := x
      unfold tkv
      obtain ⟨hcc, hf⟩ := bcell hu
      have hz := up_alloc_size hu
      go_wp2
      exact bodyPost_ret (v := .tuple #[.agg #[.int .i64 kd, .string (bs tx), .int .i64 nn, .string (bs st), .int .i64 0], .int .i64 sz]) (by simp [results, Tryd.results30, go_sem, hcc]) rfl ⟨rfl, up_set5 (up_alloc_up hu) (Nat.le_refl _) _ _ _ _ _⟩
    · by_cases hD : isD c = true
      · have HL := hide (Bool.eq_false_iff.2 hL)
        have HD := hide hD
        clear hL hD
        go_enter Tryd.func30, Tryd.ntmps30
        go_wp2_with fail
        refine (isL_any c _ hc).mono ?_
        rw [HL.out]
        rintro e w' ⟨rfl, rfl⟩
        go_wp2_with fail
        refine (isD_any c _ hc).mono ?_
        rw [HD.out]
        rintro e w' ⟨rfl, rfl⟩
        go_wp2_with fail
        refine (readInt_any s _ (HTab.out.up ((Up.refl _).alloc _)) hs c r Hl.out HD.out).mono ?_
        rw [← Hx.out]
        rintro e w2 ⟨rfl, hu⟩
        obtain ⟨⟨kd, tx, nn, st⟩, sz⟩ := x
        unfold tkv
        obtain ⟨hcc, hf⟩ := bcell hu
        have hz := up_alloc_size hu
        go_wp2
        exact bodyPost_ret (v := .tuple #[.agg #[.int .i64 kd, .string (bs tx), .int .i64 nn, .string (bs st), .int .i64 0], .int .i64 sz]) (by simp [results, Tryd.results30, go_sem, hcc]) rfl ⟨rfl, up_set5 (up_alloc_up hu) (Nat.le_refl _) _ _ _ _ _⟩
      · have HL := hide (Bool.eq_false_iff.2 hL)
        have HD := hide (Bool.eq_false_iff.2 hD)
        clear hL hD
        by_cases hq : c = 34
        · have e34 : ((c : Int) == 34) = true := by rw [hq]; rfl
          have Hq := hide hq
          clear hq
          go_enter Tryd.func30, Tryd.ntmps30
          go_wp2_with fail
          refine (isL_any c _ hc).mono ?_
          rw [HL.out]
          rintro e w' ⟨rfl, rfl⟩
          go_wp2_with fail
          refine (isD_any c _ hc).mono ?_
          rw [HD.out]
          rintro e w' ⟨rfl, rfl⟩
          go_wp2_with fail
          refine (readString_any s _ hs r (by rw [Hl.out, Hq.out])).mono ?_
          rw [← Hx.out]
          rintro e w2 ⟨rfl, hu⟩
          obtain ⟨⟨kd, tx, nn, st⟩, sz⟩ := x
          unfold tkv
          obtain ⟨hcc, hf⟩ := bcell hu
          have hz := up_alloc_size hu
          go_wp2
          exact bodyPost_ret (v := .tuple #[.agg #[.int .i64 kd, .string (bs tx), .int .i64 nn, .string (bs st), .int .i64 0], .int .i64 sz]) (by simp [results, Tryd.results30, go_sem, hcc]) rfl ⟨rfl, up_set5 (up_alloc_up hu) (Nat.le_refl _) _ _ _ _ _⟩
        · have e34 : ((c : Int) == 34) = false := by rw [beq_eq_false_iff_ne]; omega
          obtain ⟨z, hz0, hzc⟩ := symIdx c (w.alloc (.cells #[.int .i64 0, .string ⟨#[]⟩, .int .i64 0, .string ⟨#[]⟩, .int .i64 0] 30)) hc
          by_cases hS : isS c = true
          · rw [hS] at hz0
            have HT : Hid (x = (⟨4, [c], 0, []⟩, 1)) := by
              show _ = _
              rw [Hx.out, Hl.out]
              unfold tok
              simp only [HL.out, HD.out, hq, hS, if_true, if_false, Bool.false_eq_true]
            have cut : ∀ W : World, (Instr.slice 9 (.string s) none (some (.int .i64 1)) none).run Tryd.prog W = .ok (.string (bs [c])) W := fun W => by
              have h := slice_pre s 1 h0 W
              rw [ext_bs, Hl.out] at h
              exact h
            clear hq hS
            go_enter Tryd.func30, Tryd.ntmps30
            go_wp2_with fail
            refine (isL_any c _ hc).mono ?_
            rw [HL.out]
            rintro e w' ⟨rfl, rfl⟩
            go_wp2_with fail
            refine (isD_any c _ hc).mono ?_
            rw [HD.out]
            rintro e w' ⟨rfl, rfl⟩
            go_wp2_with fail
            refine hzc.mono ?_
            rintro e w' ⟨rfl, rfl⟩
            go_wp2
            exact bodyPost_ret (v := .tuple #[.agg #[.int .i64 4, .string (bs [c]), .int .i64 0, .string ⟨#[]⟩, .int .i64 0], .int .i64 1]) (by simp [results, Tryd.results30, go_sem]) rfl ⟨by rw [HT.out]; rfl, (Up.refl _).alloc _⟩
          · rw [Bool.eq_false_iff.2 hS] at hz0
            have HT : Hid (x = (tk0, 0)) := by
              show _ = _
              rw [Hx.out, Hl.out]
              unfold tok
              simp only [HL.out, HD.out, hq, hS, if_false, Bool.false_eq_true]
            clear hq hS
            go_enter Tryd.func30, Tryd.ntmps30
            go_wp2_with fail
            refine (isL_any c _ hc).mono ?_
            rw [HL.out]
            rintro e w' ⟨rfl, rfl⟩
            go_wp2_with fail
            refine (isD_any c _ hc).mono ?_
            rw [HD.out]
            rintro e w' ⟨rfl, rfl⟩
            go_wp2_with fail
            refine hzc.mono ?_
            rintro e w' ⟨rfl, rfl⟩
            go_wp2
            exact bodyPost_ret (v := .tuple #[.agg #[.int .i64 0, .string ⟨#[]⟩, .int .i64 0, .string ⟨#[]⟩, .int .i64 0], .int .i64 0]) (by simp [results, Tryd.results30, go_sem]) rfl ⟨by rw [HT.out]; rfl, (Up.refl _).alloc _⟩
/-- The token that a text consists of, or none. -/
def whl (l : List Nat) : Tk := if (tok l).2 < l.length then tk0 else (tok l).1
/-- A function that returns a token. -/
def RetTk (w : World) (t : Tk) (e : Ending) (w' : World) : Prop := e = .returned (tkv t 0) ∧ Up w w'
set_option maxRecDepth 100000 in
set_option maxHeartbeats 2000000 in
theorem whole_any (s : ByteArray) (w : World) (hTab : Tabs w) (hs : s.size ≤ 100000) : Calls Tryd.prog 35 #[.string s] w (RetTk w (whl (by_ s))) := by
  have HTab := hide hTab
  clear hTab
  obtain ⟨x, Hx⟩ : ∃ x, Hid (x = tok (by_ s)) := ⟨_, rfl⟩
  have Hw : Hid (whl (by_ s) = if x.2 < s.size then tk0 else x.1) := by show _ = _; unfold whl; rw [by_len, Hx.out]
  by_cases hlt : x.2 < s.size
  · have HT : Hid (whl (by_ s) = tk0) := by show _ = _; rw [Hw.out, if_pos hlt]
    have e1 : decide (x.2 < s.size) = true := decide_eq_true hlt
    go_enter Tryd.func35, Tryd.ntmps35
    go_wp2_with fail
    refine (readToken_any s _ (HTab.out.up ((Up.refl _).alloc _)) hs).mono ?_
    rw [← Hx.out]
    rintro e w2 ⟨rfl, hu⟩
    obtain ⟨⟨kd, tx, nn, st⟩, sz⟩ := x
    have e1 : decide (sz < s.size) = true := e1
    unfold tkv
    obtain ⟨hcc, hf⟩ := bcell hu
    have hz := up_alloc_size hu
    clear hlt
    go_wp2
    exact bodyPost_ret (v := .agg #[.int .i64 0, .string ⟨#[]⟩, .int .i64 0, .string ⟨#[]⟩, .int .i64 0]) (by simp [results, Tryd.results35, go_sem, hcc, hz]) rfl ⟨by rw [HT.out]; rfl, (up_set5 (up_alloc_up hu) (Nat.le_refl _) _ _ _ _ _).alloc _⟩
  · have HT : Hid (whl (by_ s) = x.1) := by show _ = _; rw [Hw.out, if_neg hlt]
    have e1 : decide (x.2 < s.size) = false := decide_eq_false hlt
    go_enter Tryd.func35, Tryd.ntmps35
    go_wp2_with fail
    refine (readToken_any s _ (HTab.out.up ((Up.refl _).alloc _)) hs).mono ?_
    rw [← Hx.out]
    rintro e w2 ⟨rfl, hu⟩
    obtain ⟨⟨kd, tx, nn, st⟩, sz⟩ := x
    have e1 : decide (sz < s.size) = false := e1
    unfold tkv
    obtain ⟨hcc, hf⟩ := bcell hu
    have hz := up_alloc_size hu
    clear hlt
    go_wp2
    exact bodyPost_ret (v := .agg #[.int .i64 kd, .string (bs tx), .int .i64 nn, .string (bs st), .int .i64 0]) (by simp [results, Tryd.results35, go_sem, hcc, hz]) rfl ⟨by rw [HT.out]; rfl, by first | exact (up_set5 (up_alloc_up hu) (Nat.le_refl _) _ _ _ _ _).alloc _ | (trace_state; sorry)⟩
end Go.Proofs.YtnhncakkbfjdjaaDoor
