/- Walks: lines and fields, by the reference; lists of strings compared. -/
import Derived.Test.YtnhncakkbfjdjaaDoorWx
namespace Go.Proofs.YtnhncakkbfjdjaaDoor
open Go.RowKit

def sb (l : List (List Nat)) : List Value := ss (l.map bs)
theorem sb_append (a b : List (List Nat)) : sb (a ++ b) = sb a ++ sb b := by unfold sb; rw [List.map_append, ss_append]
theorem sb_one (x : List Nat) : sb [x] = ss [bs x] := rfl
theorem sb_len (l : List (List Nat)) : (sb l).length = l.length := by unfold sb; rw [ss_len, List.length_map]
/-- A function that returns a list of strings. -/
def RetLs (w : World) (l : List (List Nat)) (e : Ending) (w' : World) : Prop := ∃ A c, e = .returned (.slice A l.length c) ∧ l.length ≤ c ∧ Vals w' A (sb l) ∧ Up w w'
theorem slice_mid (s : ByteArray) (b k : Nat) (hb : b ≤ k) (hk : k ≤ s.size) (W : World) : (Instr.slice 9 (.string s) (some (.int .i64 (b : Int))) (some (.int .i64 (k : Int))) none).run Tryd.prog W = .ok (.string (bs (((by_ s).take k).drop b))) W := by
  rw [run_slice_string _ _ _ _ _ _ _ Tryd.underlying9 (by omega) (by omega) (by omega)]
  simp only [Int.toNat_natCast]
  rw [ext_bs, ← List.drop_take]
theorem cur_more (l : List Nat) (b k : Nat) (hb : b ≤ k) (hk : k < l.length) : (l.take (k + 1)).drop b = (l.take k).drop b ++ [l.getD k 0] := by
  rw [take_snoc' l k hk, List.drop_append_of_le_length (by rw [List.length_take]; omega)]
theorem cur_nil (l : List Nat) (k : Nat) (hk : k ≤ l.length) : (l.take k).drop k = [] := List.drop_eq_nil_of_le (by rw [List.length_take]; omega)
theorem cur_len (l : List Nat) (b k : Nat) (hk : k ≤ l.length) : ((l.take k).drop b).length = k - b := by rw [List.length_drop, List.length_take]; omega
theorem own_sb {w : World} {base n : Nat} {v : Value} {l : List (List Nat)} (h : w.ownsRow base 9 1 v n (sb l)) : n = l.length := by
  have := h.1; rw [sb_len] at this; omega
set_option maxRecDepth 100000 in
set_option maxHeartbeats 2000000 in
theorem rlines_any (s : ByteArray) (w : World) (hs : s.size ≤ 100000) : Calls Tryd.prog 25 #[.string s] w (RetLs w (lns (by_ s))) := by
  obtain ⟨l, Hl⟩ : ∃ l, Hid (l = by_ s) := ⟨_, rfl⟩
  have Hls : Hid (l.length = s.size) := by show _ = _; rw [Hl.out, by_len]
  obtain ⟨x, Hx⟩ : ∃ x, Hid (x = lns l) := ⟨_, rfl⟩
  rw [← Hl.out, ← Hx.out]
  go_enter Tryd.func25, Tryd.ntmps25
  go_wp2
  go_loopw [3, 4, 5] (fun v3 v4 v5 wr => ∃ (k b m : Nat) (ls : List (List Nat)), v5 = .int .i64 k ∧ k ≤ s.size ∧ v4 = .int .i64 b ∧ b ≤ k ∧ wr.ownsRow w.heap.size 9 1 v3 m (sb ls) ∧ Hid (x = ls ++ lnsG ((l.take k).drop b) (l.drop k)) ∧ Up w wr ∧ m ≤ b) (fun _ _ v5 _ => s.size - (intOf v5).toNat)
  case atStart => exact ⟨0, 0, 0, [], rfl, by omega, rfl, by omega, World.ownsRow_nil _ _ _ _, by show x = _; rw [Hx.out]; simp [lns], Up.refl _, by omega⟩
  case round =>
    obtain ⟨k, b, m, ls, rfl, hk, rfl, hbk, hown, HX, hup, hm⟩ := hrel
    have hsz := hup.size
    by_cases hlt : k < s.size
    · obtain ⟨c, Hc⟩ : ∃ c, Hid (c = l.getD k 0) := ⟨_, rfl⟩
      have hat : ((s[k]'hlt).toNat : Int) = (c : Int) := by rw [u8_at s k hlt, Hc.out, Hl.out]
      have hdrop : Hid (l.drop k = c :: l.drop (k + 1)) := by show _ = _; rw [Hc.out]; exact drop_at _ _ (by rw [Hls.out]; exact hlt)
      by_cases h10 : c = 10
      · have cut := slice_mid s b k hbk hk
        obtain ⟨y, Hy⟩ : ∃ y, Hid (y = bs ((l.take k).drop b)) := ⟨_, rfl⟩
        rw [← Hl.out, ← Hy.out] at cut
        have HE : Hid (x = (ls ++ [(l.take k).drop b]) ++ lnsG ((l.take (k + 1)).drop (k + 1)) (l.drop (k + 1))) := by
          show x = _
          rw [HX.out, hdrop.out, cur_nil l (k + 1) (by rw [Hls.out]; exact hlt), List.append_assoc]
          congr 1
          rw [lnsG, if_pos h10]
          rfl
        have e10 : ((c : Int) == 10) = true := by rw [h10]; rfl
        clear h10
        go_wp2_with (at_builtin; refine wp_appV rfl _ _ 32 9 rfl w.heap.size (.string ⟨#[]⟩) 16 Tryd.underlying32 Tryd.info9 rfl (by decide) _ m _ rfl (hown.alloc _) (some ⟨wr.heap.size, 0, none⟩) 1 1 (ss [y]) rfl rfl (ss_one _) (vals_one _ _ _) (by omega) (by simp; omega) ?_; intro v1 w1 hown1 hgrow1)
        go_roundw
        case rel => exact ⟨k + 1, k + 1, m + 1, _, by go_num, by omega, by go_num, by omega, by rw [sb_append, sb_one, ← Hy.out]; exact hown1, HE.out, up_append hup hown hgrow1, by omega⟩
        case measure => simp [intOf]; omega
      · have HE : Hid (x = ls ++ lnsG ((l.take (k + 1)).drop b) (l.drop (k + 1))) := by
          show x = _
          rw [HX.out, hdrop.out, cur_more l b k hbk (by rw [Hls.out]; exact hlt), ← Hc.out]
          congr 1
          rw [lnsG, if_neg h10]
        have e10 : ((c : Int) == 10) = false := by rw [beq_eq_false_iff_ne]; omega
        clear h10
        go_wp2
        go_roundw
        case rel => exact ⟨k + 1, b, m, ls, by go_num, by omega, rfl, by omega, hown, HE.out, hup, hm⟩
        case measure => simp [intOf]; omega
    · obtain ⟨cur, Hcur⟩ : ∃ cur, Hid (cur = (l.take k).drop b) := ⟨_, rfl⟩
      have hcl : cur.length = s.size - b := by rw [Hcur.out, cur_len l b k (by rw [Hls.out]; omega)]; omega
      have HX2 : Hid (x = ls ++ if cur = [] then [] else [cur]) := by
        show x = _
        rw [HX.out, ← Hcur.out, List.drop_eq_nil_of_le (by rw [Hls.out]; omega)]
        rfl
      by_cases hb : b < s.size
      · have HE : Hid (x = ls ++ [cur]) := by show x = _; rw [HX2.out, if_neg (by intro e; rw [e] at hcl; simp at hcl; omega)]
        have cut := slice_from s b (by omega)
        obtain ⟨y, Hy⟩ : ∃ y, Hid (y = bs cur) := ⟨_, rfl⟩
        have ey : bs ((by_ s).drop b) = y := by
          rw [Hy.out, Hcur.out, ← Hl.out, List.take_of_length_le (by rw [Hls.out]; omega)]
        rw [ey] at cut
        have hcl' := hide hcl
        clear hcl ey
        go_wp2_with (at_builtin; refine wp_appV rfl _ _ 32 9 rfl w.heap.size (.string ⟨#[]⟩) 16 Tryd.underlying32 Tryd.info9 rfl (by decide) _ m _ rfl (hown.alloc _) (some ⟨wr.heap.size, 0, none⟩) 1 1 (ss [y]) rfl rfl (ss_one _) (vals_one _ _ _) (by omega) (by simp; omega) ?_; intro v1 w1 hown1 hgrow1; obtain ⟨A1, c1, rfl, hc1, hv1, _, _⟩ := own_vals hown1)
        have HN : Hid (m + 1 = x.length) := by show _ = _; have := own_sb hown; rw [HE.out, List.length_append, ← this]; rfl
        have HV : Hid (Vals w1 A1 (sb x)) := by show Vals _ _ _; rw [HE.out, sb_append, sb_one, ← Hy.out]; exact hv1
        go_ret
        exact ⟨A1, c1, by rw [← HN.out]; rfl, by rw [← HN.out]; exact hc1, HV.out, up_append hup hown hgrow1⟩
      · have HE : Hid (x = ls) := by show x = _; rw [HX2.out, if_pos (List.length_eq_zero_iff.1 (by omega)), List.append_nil]
        clear hcl
        obtain ⟨A1, c1, rfl, hc1, hv1, _, _⟩ := own_vals hown
        have HN : Hid (m = x.length) := by show _ = _; rw [HE.out]; exact own_sb hown
        go_wp2
        go_ret
        exact ⟨A1, c1, by rw [← HN.out]; rfl, by rw [← HN.out]; exact hc1, by rw [HE.out]; exact hv1, hup⟩
set_option maxRecDepth 100000 in
set_option maxHeartbeats 2000000 in
theorem rfields_any (s : ByteArray) (w : World) (hs : s.size ≤ 100000) : Calls Tryd.prog 27 #[.string s] w (RetLs w (fld (by_ s))) := by
  obtain ⟨l, Hl⟩ : ∃ l, Hid (l = by_ s) := ⟨_, rfl⟩
  have Hls : Hid (l.length = s.size) := by show _ = _; rw [Hl.out, by_len]
  obtain ⟨x, Hx⟩ : ∃ x, Hid (x = fld l) := ⟨_, rfl⟩
  rw [← Hl.out, ← Hx.out]
  go_enter Tryd.func27, Tryd.ntmps27
  go_wp2
  go_loopw [3, 4, 5] (fun v3 v4 v5 wr => ∃ (k b m : Nat) (ls : List (List Nat)), v5 = .int .i64 k ∧ k ≤ s.size + 1 ∧ v4 = .int .i64 b ∧ b ≤ k ∧ wr.ownsRow w.heap.size 9 1 v3 m (sb ls) ∧ Hid (x = ls ++ if k ≤ s.size then fldG ((l.take k).drop b) (l.drop k) else []) ∧ Up w wr ∧ m ≤ b) (fun _ _ v5 _ => s.size + 1 - (intOf v5).toNat)
  case atStart => exact ⟨0, 0, 0, [], rfl, by omega, rfl, by omega, World.ownsRow_nil _ _ _ _, by show x = _; rw [Hx.out, if_pos (by omega)]; simp [fld], Up.refl _, by omega⟩
  case round =>
    obtain ⟨k, b, m, ls, rfl, hk, rfl, hbk, hown, HX, hup, hm⟩ := hrel
    have hsz := hup.size
    by_cases hle : k ≤ s.size
    · have HX1 : Hid (x = ls ++ fldG ((l.take k).drop b) (l.drop k)) := by show x = _; rw [HX.out, if_pos hle]
      have cut := slice_mid s b k hbk hle
      obtain ⟨cur, Hcur⟩ : ∃ cur, Hid (cur = (l.take k).drop b) := ⟨_, rfl⟩
      have hcl : cur.length = k - b := by rw [Hcur.out, cur_len l b k (by rw [Hls.out]; omega)]
      obtain ⟨y, Hy⟩ : ∃ y, Hid (y = bs cur) := ⟨_, rfl⟩
      rw [← Hl.out, ← Hcur.out, ← Hy.out] at cut
      rw [← Hcur.out] at HX1
      have hne : b < k → cur ≠ [] := fun h e => by rw [e] at hcl; simp at hcl; omega
      have hnil : ¬ b < k → cur = [] := fun h => List.length_eq_zero_iff.1 (by omega)
      have Hcl := hide hcl
      clear hcl
      by_cases hlt : k < s.size
      · have ne : ((k : Int) == (s.size : Int)) = false := by rw [beq_eq_false_iff_ne]; omega
        obtain ⟨c, Hc⟩ : ∃ c, Hid (c = l.getD k 0) := ⟨_, rfl⟩
        have hat : ((s[k]'hlt).toNat : Int) = (c : Int) := by rw [u8_at s k hlt, Hc.out, Hl.out]
        have hc : c < 256 := by rw [Hc.out, Hl.out]; exact by_getD_lt s k
        have hdrop : Hid (l.drop k = c :: l.drop (k + 1)) := by show _ = _; rw [Hc.out]; exact drop_at _ _ (by rw [Hls.out]; exact hlt)
        by_cases hW : isW c = true
        · have HW := hide hW
          clear hW
          by_cases hb : b < k
          · have HE : Hid (x = (ls ++ [cur]) ++ if k + 1 ≤ s.size then fldG ((l.take (k + 1)).drop (k + 1)) (l.drop (k + 1)) else []) := by
              show x = _
              rw [HX1.out, hdrop.out, fldG_w1 _ _ _ HW.out (hne hb), if_pos (by omega), cur_nil l (k + 1) (by rw [Hls.out]; exact hlt), List.append_assoc]
              rfl
            clear hne hnil
            go_wp2_with fail
            refine (risW_any c _ hc).mono ?_
            rw [HW.out]
            rintro e w' ⟨rfl, rfl⟩
            go_wp2_with (at_builtin; refine wp_appV rfl _ _ 32 9 rfl w.heap.size (.string ⟨#[]⟩) 16 Tryd.underlying32 Tryd.info9 rfl (by decide) _ m _ rfl (hown.alloc _) (some ⟨wr.heap.size, 0, none⟩) 1 1 (ss [y]) rfl rfl (ss_one _) (vals_one _ _ _) (by omega) (by simp; omega) ?_; intro v1 w1 hown1 hgrow1)
            go_roundw
            case rel => exact ⟨k + 1, k + 1, m + 1, _, by go_num, by omega, by go_num, by omega, by rw [sb_append, sb_one, ← Hy.out]; exact hown1, HE.out, up_append hup hown hgrow1, by omega⟩
            case measure => simp [intOf]; omega
          · have HE : Hid (x = ls ++ if k + 1 ≤ s.size then fldG ((l.take (k + 1)).drop (k + 1)) (l.drop (k + 1)) else []) := by
              show x = _
              rw [HX1.out, hdrop.out, hnil hb, fldG_w0 _ _ HW.out, if_pos (by omega), cur_nil l (k + 1) (by rw [Hls.out]; exact hlt)]
            have db : decide ((b : Int) < k) = false := decide_eq_false (by omega)
            clear hne hnil
            go_wp2_with fail
            refine (risW_any c _ hc).mono ?_
            rw [HW.out]
            rintro e w' ⟨rfl, rfl⟩
            go_wp2
            go_roundw
            case rel => exact ⟨k + 1, k + 1, m, _, by go_num, by omega, by go_num, by omega, hown, HE.out, hup, by omega⟩
            case measure => simp [intOf]; omega
        · have HW := hide (Bool.eq_false_iff.2 hW)
          clear hW
          have HE : Hid (x = ls ++ if k + 1 ≤ s.size then fldG ((l.take (k + 1)).drop b) (l.drop (k + 1)) else []) := by
            show x = _
            rw [HX1.out, hdrop.out, fldG_more _ _ _ HW.out, if_pos (by omega), cur_more l b k hbk (by rw [Hls.out]; exact hlt), ← Hc.out, ← Hcur.out]
          clear hne hnil
          go_wp2_with fail
          refine (risW_any c _ hc).mono ?_
          rw [HW.out]
          rintro e w' ⟨rfl, rfl⟩
          go_wp2
          go_roundw
          case rel => exact ⟨k + 1, b, m, _, by go_num, by omega, rfl, by omega, hown, HE.out, hup, hm⟩
          case measure => simp [intOf]; omega
      · have ne : ((k : Int) == (s.size : Int)) = true := by rw [beq_iff_eq]; omega
        have HX2 : Hid (x = ls ++ if cur = [] then [] else [cur]) := by
          show x = _
          rw [HX1.out, List.drop_eq_nil_of_le (by rw [Hls.out]; omega)]
          rfl
        by_cases hb : b < k
        · have HE : Hid (x = (ls ++ [cur]) ++ if k + 1 ≤ s.size then fldG ((l.take (k + 1)).drop (k + 1)) (l.drop (k + 1)) else []) := by
            show x = _
            rw [HX2.out, if_neg (hne hb), if_neg (by omega), List.append_nil]
          clear hne hnil
          go_wp2_with (at_builtin; refine wp_appV rfl _ _ 32 9 rfl w.heap.size (.string ⟨#[]⟩) 16 Tryd.underlying32 Tryd.info9 rfl (by decide) _ m _ rfl (hown.alloc _) (some ⟨wr.heap.size, 0, none⟩) 1 1 (ss [y]) rfl rfl (ss_one _) (vals_one _ _ _) (by omega) (by simp; omega) ?_; intro v1 w1 hown1 hgrow1)
          go_roundw
          case rel => exact ⟨k + 1, k + 1, m + 1, _, by go_num, by omega, by go_num, by omega, by rw [sb_append, sb_one, ← Hy.out]; exact hown1, HE.out, up_append hup hown hgrow1, by omega⟩
          case measure => simp [intOf]; omega
        · have HE : Hid (x = ls ++ if k + 1 ≤ s.size then fldG ((l.take (k + 1)).drop (k + 1)) (l.drop (k + 1)) else []) := by
            show x = _
            rw [HX2.out, if_pos (hnil hb), if_neg (by omega)]
          have db : decide ((b : Int) < k) = false := decide_eq_false (by omega)
          clear hne hnil
          go_wp2
          go_roundw
          case rel => exact ⟨k + 1, k + 1, m, _, by go_num, by omega, by go_num, by omega, hown, HE.out, hup, by omega⟩
          case measure => simp [intOf]; omega
    · have HE : Hid (x = ls) := by show x = _; rw [HX.out, if_neg hle, List.append_nil]
      obtain ⟨A1, c1, rfl, hc1, hv1, _, _⟩ := own_vals hown
      have HN : Hid (m = x.length) := by show _ = _; rw [HE.out]; exact own_sb hown
      go_wp2
      go_ret
      exact ⟨A1, c1, by rw [← HN.out]; rfl, by rw [← HN.out]; exact hc1, by rw [HE.out]; exact hv1, hup⟩
end Go.Proofs.YtnhncakkbfjdjaaDoor
