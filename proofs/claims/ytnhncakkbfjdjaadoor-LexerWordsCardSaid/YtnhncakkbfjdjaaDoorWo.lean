/- Walks: string literals and names, by the reference. -/
import Derived.Test.YtnhncakkbfjdjaaDoorWn
namespace Go.Proofs.YtnhncakkbfjdjaaDoor
open Go.RowKit

def strR (l : List Nat) : List Nat × Nat := match l with
  | 34 :: r => match stg r with | some (m, k) => (m, k + 1) | none => ([], 0)
  | _ => ([], 0)
theorem strR_quote (r : List Nat) : strR (34 :: r) = match stg r with | some (m, k) => (m, k + 1) | none => ([], 0) := rfl
theorem strR_other (c : Nat) (r : List Nat) (h : c ≠ 34) : strR (c :: r) = ([], 0) := by
  unfold strR
  split
  · next r' e => cases e; exact absurd rfl h
  · rfl
theorem whl_zero (l : List Nat) (h : (tok l).2 = 0) : whl l = tk0 := by
  unfold whl
  cases l with
  | nil => rfl
  | cons c r => rw [h, if_pos (by simp)]
theorem whl_lt (l : List Nat) (h : (tok l).2 < l.length) : whl l = tk0 := by unfold whl; rw [if_pos h]
theorem whl_eq (l : List Nat) (h : ¬ (tok l).2 < l.length) : whl l = (tok l).1 := by unfold whl; rw [if_neg h]
theorem unq_no (l : List Nat) (h : (whl l).kind ≠ 3) : unq l = none := by unfold unq; rw [if_neg h]
theorem unq_yes (l : List Nat) (h : (whl l).kind = 3) : unq l = some (whl l).str := by unfold unq; rw [if_pos h]
theorem whl_kind (l : List Nat) : whl l = tk0 ∨ whl l = (tok l).1 := by unfold whl; split <;> simp
theorem unq_str (l : List Nat) : unq l = if (strR l).2 = 0 ∨ (strR l).2 ≠ l.length then none else some (strR l).1 := by
  have hk0 : tk0.kind ≠ 3 := by decide
  have other : ∀ c r, l = c :: r → c ≠ 34 → (strR l).2 = 0 := fun c r e h => by rw [e, strR_other c r h]
  rcases tok_cases l with h0 | ⟨c, r, rfl, hL, h24, e⟩ | ⟨c, r, v, rfl, hL, hD, hv, e⟩ | ⟨r, m, k, rfl, hm, e⟩ | ⟨c, r, rfl, hS, e⟩
  · have hs : (strR l).2 = 0 := by
      cases l with
      | nil => rfl
      | cons c r =>
        by_cases h34 : c = 34
        · subst h34
          rw [tok_str] at h0
          rw [strR_quote]
          cases hs : stg r with
          | none => rfl
          | some x => rw [hs] at h0; simp at h0
        · exact other c r rfl h34
    rw [if_pos (Or.inl hs), unq_no _ (by rw [whl_zero l h0]; exact hk0)]
  · have h34 : c ≠ 34 := by intro h; subst h; cases hL
    rw [if_pos (Or.inl (other c r rfl h34)), unq_no]
    rcases whl_kind (c :: r) with h | h
    · rw [h]; exact hk0
    · rw [h, e]; simp
  · have h34 : c ≠ 34 := by intro h; subst h; cases hD
    rw [if_pos (Or.inl (other c r rfl h34)), unq_no]
    rcases whl_kind (c :: r) with h | h
    · rw [h]; exact hk0
    · rw [h, e]; simp
  · have hsz := stg_size _ r (Nat.le_refl _) m k hm
    have e2 : strR (34 :: r) = (m, k + 1) := by rw [strR_quote, hm]
    rw [e2]
    by_cases h : k + 1 < r.length + 1
    · rw [if_pos (Or.inr (by simp only [List.length_cons]; omega)), unq_no _ (by rw [whl_lt _ (by rw [e]; simpa using h)]; exact hk0)]
    · have hw : whl (34 :: r) = ⟨3, [], 0, m⟩ := by rw [whl_eq _ (by rw [e]; simpa using h), e]
      rw [if_neg (by simp only [List.length_cons]; omega), unq_yes _ (by rw [hw]), hw]
  · have h34 : c ≠ 34 := by intro h; subst h; cases hS
    rw [if_pos (Or.inl (other c r rfl h34)), unq_no]
    rcases whl_kind (c :: r) with h | h
    · rw [h]; exact hk0
    · rw [h, e]; simp
/-- A function that returns a string and a size. -/
def RetSN (w : World) (x : List Nat × Nat) (e : Ending) (w' : World) : Prop := e = .returned (.tuple #[.string (bs x.1), .int .i64 (x.2 : Int)]) ∧ Up w w'
set_option maxRecDepth 100000 in
set_option maxHeartbeats 2000000 in
theorem rstr_any (s : ByteArray) (w : World) (hs : s.size ≤ 100000) : Calls Tryd.prog 36 #[.string s] w (RetSN w (strR (by_ s))) := by
  obtain ⟨x, Hx⟩ : ∃ x, Hid (x = strR (by_ s)) := ⟨_, rfl⟩
  rw [← Hx.out]
  match hl : by_ s with
  | [] =>
    have h0 : s.size = 0 := by rw [← by_len, hl]; rfl
    obtain ⟨e1, e2⟩ := toList_nil s h0
    have HT : Hid (x = ([], 0)) := by show _ = _; rw [Hx.out, hl]; rfl
    clear hl h0
    go_enter Tryd.func36, Tryd.ntmps36
    go_wp2
    go_ret2
    exact ⟨by rw [HT.out]; rfl, Up.refl _⟩
  | c :: r =>
    have h0 : 0 < s.size := by rw [← by_len, hl]; simp
    have a0 : ((s[0]'h0).toNat : Int) = (c : Int) := by rw [u8_at s 0 h0, hl]; rfl
    obtain ⟨e1, e2⟩ := toList_ne s h0
    by_cases hq : c = 34
    · subst hq
      have a0 : ((s[0]'h0).toNat : Int) = 34 := a0
      have Hl := hide hl
      clear hl
      go_enter Tryd.func36, Tryd.ntmps36
      go_wp2
      go_loopw [4, 5] (fun v i wr => ∃ (j : Nat) (acc : List Nat), i = .int .i64 j ∧ 1 ≤ j ∧ j ≤ s.size ∧ v = .string (bs acc) ∧ acc.length ≤ j ∧ Up w wr ∧ Hid (stg r = accS acc (j - 1) (stg ((by_ s).drop j)))) (fun _ i _ => s.size - (intOf i).toNat)
      case atStart => exact ⟨1, [], rfl, by omega, by omega, rfl, by simp, Up.refl _, by show stg r = accS [] 0 _; rw [Hl.out]; unfold accS; simp⟩
      case round =>
        obtain ⟨j, acc, rfl, hj1, hj, rfl, hal, hup, HS⟩ := hrel
        by_cases hlt : j < s.size
        · have hjl : j < (by_ s).length := by rw [by_len]; exact hlt
          obtain ⟨c, Hc⟩ : ∃ c, Hid (c = (by_ s).getD j 0) := ⟨_, rfl⟩
          have hat : ((s[j]'hlt).toNat : Int) = (c : Int) := by rw [u8_at s j hlt, Hc.out]
          have hdrop : Hid ((by_ s).drop j = c :: (by_ s).drop (j + 1)) := by show _ = _; rw [Hc.out]; exact drop_at _ _ hjl
          by_cases hq : c = 34
          · have HT : Hid (x = (acc, j + 1)) := by
              show _ = _
              rw [Hx.out, Hl.out, strR_quote, HS.out, hdrop.out, hq, stg_quote]
              show ((acc ++ [], j - 1 + 1 + 1) : List Nat × Nat) = _
              rw [List.append_nil, show j - 1 + 1 + 1 = j + 1 by omega]
            have e34 : ((c : Int) == 34) = true := by rw [hq]; rfl
            have e34' : ((c : Int) != 34) = false := by unfold bne; rw [e34]; rfl
            have ne : ((j : Int) == (s.size : Int)) = false := by rw [beq_eq_false_iff_ne]; omega
            clear hq
            go_wp2
            go_ret2
            exact ⟨by rw [HT.out]; rfl, hup⟩
          · have e34 : ((c : Int) == 34) = false := by rw [beq_eq_false_iff_ne]; omega
            have e34' : ((c : Int) != 34) = true := by unfold bne; rw [e34]; rfl
            obtain ⟨y, Hy⟩ : ∃ y, Hid (y = chr ((by_ s).drop j)) := ⟨_, rfl⟩
            have hyl := chr_size ((by_ s).drop j)
            rw [List.length_drop, by_len, ← Hy.out] at hyl
            have hylt : y.1 < 256 := by rw [Hy.out]; exact chr_lt _ (fun x hx => by_lt s x (List.mem_of_mem_drop hx))
            have hhead : ((by_ s).drop j).head? ≠ some 34 := by rw [hdrop.out]; simpa using hq
            have cut := slice_from s j hj
            obtain ⟨t, Ht⟩ : ∃ t, Hid (t = bs ((by_ s).drop j)) := ⟨_, rfl⟩
            rw [← Ht.out] at cut
            have hbt : Hid (by_ t = (by_ s).drop j) := by show _ = _; rw [Ht.out, by_bs_drop]
            have hts : t.size ≤ 100000 := by rw [← by_len, hbt.out, List.length_drop, by_len]; omega
            obtain ⟨y1, y2⟩ := y
            have Hylt : y1 < 256 := hylt
            have Hyl : y2 ≤ s.size - j := hyl.1
            clear hyl hylt
            by_cases h0 : y2 = 0
            · have HT : Hid (x = ([], 0)) := by
                show _ = _
                rw [Hx.out, Hl.out, strR_quote, HS.out, stg_bad _ hhead (by rw [← Hy.out]; exact h0)]
                rfl
              have e0 : ((y2 : Int) == 0) = true := by rw [h0]; rfl
              clear hq hhead h0
              go_wp2_with fail
              refine (rchar_any t _ hts).mono ?_
              rw [hbt.out, ← Hy.out]
              rintro e w2 ⟨rfl, hu2⟩
              go_wp2
              go_ret2
              exact ⟨by rw [HT.out]; rfl, hup.trans hu2⟩
            · have e0 : ((y2 : Int) == 0) = false := by rw [beq_eq_false_iff_ne]; omega
              have hstep : Hid (stg ((by_ s).drop j) = accS [y1] y2 (stg ((by_ s).drop (j + y2)))) := by
                show _ = _
                rw [stg_step _ hhead (by rw [← Hy.out]; exact h0), ← Hy.out, List.drop_drop]
                rfl
              have hp2 : 1 ≤ y2 := by omega
              have f1 : ¬ 9223372036854775807 < (bs acc).size + (bs [y1]).size := fits _ _ 100000 1 (by omega) (by simp) (by omega)
              clear hq hhead h0
              go_wp2_with fail
              refine (rchar_any t _ hts).mono ?_
              rw [hbt.out, ← Hy.out]
              rintro e w2 ⟨rfl, hu2⟩
              have hcv := run_str (w2.alloc (.cells #[.int .u8 (y1 : Int)] 5)) (some ⟨w2.heap.size, 0, none⟩) 1 1 [y1] (lim_row _ _ _ rfl) rfl (by simpa using Hylt)
              go_wp2
              go_roundw
              case rel => exact ⟨j + y2, acc ++ [y1], by go_num, by omega, by omega, by rw [bs_append], by simp; omega, (hup.trans hu2).alloc _, by
                show _ = _
                rw [HS.out, hstep.out]
                unfold accS
                rw [Option.map_map]
                congr 1
                funext z
                simp only [Function.comp, Prod.mk.injEq, List.append_assoc, true_and]
                omega⟩
              case measure => simp [intOf]; omega
        · have HT : Hid (x = ([], 0)) := by
            show _ = _
            rw [Hx.out, Hl.out, strR_quote, HS.out, List.drop_eq_nil_of_le (by rw [by_len]; omega), stg_nil]
            rfl
          have ne : ((j : Int) == (s.size : Int)) = true := by rw [beq_iff_eq]; omega
          go_wp2
          go_ret2
          exact ⟨by rw [HT.out]; rfl, hup⟩
    · have HT : Hid (x = ([], 0)) := by show _ = _; rw [Hx.out, hl, strR_other c r hq]
      have e34 : ((c : Int) == 34) = false := by rw [beq_eq_false_iff_ne]; omega
      have e34' : ((c : Int) != 34) = true := by unfold bne; rw [e34]; rfl
      clear hl hq
      go_enter Tryd.func36, Tryd.ntmps36
      go_wp2
      go_ret2
      exact ⟨by rw [HT.out]; rfl, Up.refl _⟩
set_option maxRecDepth 100000 in
set_option maxHeartbeats 2000000 in
theorem runq_any (s : ByteArray) (w : World) (hs : s.size ≤ 100000) : Calls Tryd.prog 20 #[.string s] w (RetS w (unq (by_ s))) := by
  obtain ⟨x, Hx⟩ : ∃ x, Hid (x = strR (by_ s)) := ⟨_, rfl⟩
  have HU : Hid (unq (by_ s) = if x.2 = 0 ∨ x.2 ≠ s.size then none else some x.1) := by show _ = _; rw [unq_str, ← Hx.out, by_len]
  obtain ⟨x1, x2⟩ := x
  by_cases h : x2 = 0 ∨ x2 ≠ s.size
  · have HT : Hid (unq (by_ s) = none) := by show _ = _; rw [HU.out]; exact if_pos h
    have e : ((x2 : Int) == 0) = true ∨ (((x2 : Int) == 0) = false ∧ ((x2 : Int) != (s.size : Int)) = true) := by
      by_cases h0 : x2 = 0
      · exact .inl (by rw [h0]; rfl)
      · exact .inr ⟨by rw [beq_eq_false_iff_ne]; omega, by rw [bne_iff_ne]; omega⟩
    clear h
    rcases e with e | ⟨e, e'⟩
    all_goals
      go_enter Tryd.func20, Tryd.ntmps20
      go_wp2_with fail
      refine (rstr_any s _ hs).mono ?_
      rw [← Hx.out]
      rintro e w2 ⟨rfl, hu2⟩
      go_wp2
      go_ret2
      exact ⟨by rw [HT.out]; rfl, hu2⟩
  · have HT : Hid (unq (by_ s) = some x1) := by show _ = _; rw [HU.out]; exact if_neg h
    have e : ((x2 : Int) == 0) = false := by rw [beq_eq_false_iff_ne]; omega
    have e' : ((x2 : Int) != (s.size : Int)) = false := by rw [bne_eq_false_iff_eq]; omega
    clear h
    go_enter Tryd.func20, Tryd.ntmps20
    go_wp2_with fail
    refine (rstr_any s _ hs).mono ?_
    rw [← Hx.out]
    rintro e w2 ⟨rfl, hu2⟩
    go_wp2
    go_ret2
    exact ⟨by rw [HT.out]; rfl, hu2⟩
end Go.Proofs.YtnhncakkbfjdjaaDoor
