/- Walks: the reference on members, their number, the set of some numbers, the first n numbers. -/
import Derived.Test.YthepjpahabcpkaaDoorSd
namespace Go.Proofs.YthepjpahabcpkaaDoor
open Go.RowKit

set_option maxRecDepth 100000 in
set_option maxHeartbeats 2000000 in
theorem rmembers_any (s : Nat) (w : World) (hs : s < 65536) : Calls Tryd.prog 22 #[.int .u16 (s : Int)] w fun e w' => ∃ v, e = .returned v ∧ w'.ownsRow w.heap.size 3 1 v (cnt s) (ns (mem 16 s)) ∧ Up w w' := by
  obtain ⟨L, HL⟩ : ∃ L, Hid (L = mem 16 s) := ⟨_, rfl⟩
  have HN : Hid (cnt s = L.length) := by show _ = _; rw [HL.out]; rfl
  rw [← HL.out, HN.out]
  go_enter Tryd.func22, Tryd.ntmps22
  go_wp2
  go_loopw [3, 4] (fun v3 v4 wr => ∃ (k n : Nat) (ls : List Nat), v4 = .int .i64 (k : Int) ∧ k ≤ 16 ∧ n ≤ k ∧ wr.ownsRow w.heap.size 3 1 v3 n (ns ls) ∧ Hid (ls = mem k s) ∧ Up w wr) (fun _ v4 _ => 16 - (intOf v4).toNat)
  case atStart => exact ⟨0, 0, [], rfl, by omega, by omega, World.ownsRow_nil _ _ _ _, rfl, Up.refl _⟩
  case round =>
    obtain ⟨k, n, ls, rfl, hk, hnk, hown, HX, hup⟩ := hrel
    have hsz := hup.size
    have hlen : ls.length = n := by have := hown.1; rw [ns_len] at this; omega
    by_cases hlt : k < 16
    · have hhas := has_any s k wr hs hlt
      have HX2 : Hid (mem (k + 1) s = ls ++ if s.testBit k then [k] else []) := by show _ = _; rw [HX.out]; exact mem_succ k s
      cases hb : s.testBit k with
      | true =>
        rw [hb] at hhas HX2
        have HX3 : Hid (ls ++ [k] = mem (k + 1) s) := by show _ = _; rw [HX2.out]; rfl
        clear hb HX HX2
        go_wp2_with fail
        refine hhas.mono ?_
        rintro e w1 ⟨rfl, rfl⟩
        go_wp2_with (at_builtin; refine wp_appV rfl _ _ 22 3 rfl w.heap.size (.int .i64 0) 8 Tryd.underlying22 Tryd.info3 rfl (by decide) _ n _ rfl (hown.alloc _) (some ⟨w1.heap.size, 0, none⟩) 1 1 (ns [k]) rfl rfl (is_one _) (vals_one _ _ _) (by omega) (by simp; omega) ?_; intro v1 w2 hown1 hgrow1)
        go_roundw
        case rel => exact ⟨k + 1, n + 1, ls ++ [k], by go_num, by omega, by omega, by rw [ns_append]; exact hown1, HX3.out, up_append hup hown hgrow1⟩
        case measure => simp [intOf]; omega
      | false =>
        rw [hb] at hhas HX2
        have HX3 : Hid (ls = mem (k + 1) s) := by show _ = _; rw [HX2.out]; simp
        clear hb HX HX2
        go_wp2_with fail
        refine hhas.mono ?_
        rintro e w1 ⟨rfl, rfl⟩
        go_wp2
        go_roundw
        case rel => exact ⟨k + 1, n, ls, by go_num, by omega, by omega, hown, HX3.out, hup⟩
        case measure => simp [intOf]; omega
    · obtain rfl : k = 16 := by omega
      have HE : Hid (L = ls) := by show L = ls; rw [HX.out, HL.out]
      go_wp2
      go_ret
      exact ⟨_, rfl, by rw [HE.out, hlen]; exact hown, hup⟩
set_option maxRecDepth 100000 in
set_option maxHeartbeats 2000000 in
theorem rcount_any (s : Nat) (w : World) (hs : s < 65536) : Calls Tryd.prog 27 #[.int .u16 (s : Int)] w (RetV w (.int .i64 (cnt s : Int))) := by
  go_enter Tryd.func27, Tryd.ntmps27
  go_wp2_with fail
  refine (rmembers_any s w hs).mono ?_
  rintro e w' ⟨v, rfl, hown, hu⟩
  obtain ⟨A, c, rfl, _, _, _, _⟩ := own_vals hown
  clear hown
  obtain ⟨n, hn⟩ : ∃ n, cnt s = n := ⟨_, rfl⟩
  rw [hn]
  go_wp2
  go_ret
  exact ⟨by rw [hn]; rfl, hu⟩
set_option maxRecDepth 100000 in
set_option maxHeartbeats 2000000 in
theorem rof_any (A : Option Addr) (n c : Nat) (l : List Int) (w : World) (hA : Vals w A (is l)) (Hn : Hid (n = l.length)) (hn : n ≤ 1000000) : Calls Tryd.prog 16 #[.slice A n c] w (RetE w (ofS 0 l)) := by
  obtain ⟨S, HS⟩ : ∃ S, Hid (S = ofS 0 l) := ⟨_, rfl⟩
  rw [← HS.out]
  go_enter Tryd.func16, Tryd.ntmps16
  go_wp2
  go_loopw [4, 5] (fun v4 v wr => ∃ k acc : Nat, v = .int .i64 (k : Int) ∧ k ≤ n ∧ acc < 65536 ∧ v4 = .int .u16 (acc : Int) ∧ Up w wr ∧ Hid (S = ofS acc (l.drop k))) (fun _ v _ => n - (intOf v).toNat)
  case atStart => exact ⟨0, 0, rfl, by omega, by omega, rfl, Up.refl w, HS.out⟩
  case round =>
    obtain ⟨k, acc, rfl, hk, hacc, rfl, hup, HX⟩ := hrel
    by_cases hlt : k < n
    · have hk1 : k < l.length := by rw [← Hn.out]; exact hlt
      obtain ⟨x, Hx⟩ : ∃ x, Hid (x = l[k]'hk1) := ⟨_, rfl⟩
      have hv := is_at hk1
      rw [← Hx.out] at hv
      obtain ⟨ad, hAd, hb, hcell⟩ := (hA.up hup).at_ hv
      subst hAd
      have HX2 : Hid (S = if (addS acc x).2 = 0 then ofS (addS acc x).1 (l.drop (k + 1)) else (0, (addS acc x).2)) := by
        show S = _
        rw [HX.out, drop_at l k hk1, ← Hx.out]
        rfl
      have hkn := known_any x wr
      clear hv hA HX
      by_cases hx : x < 0 ∨ 12 ≤ x
      · have HX3 : Hid (S = (0, 7)) := by
          show S = _
          have : addS acc x = (acc, 7) := by unfold addS; rw [if_pos hx]
          rw [HX2.out, this]
          rfl
        have hd : (decide (0 ≤ x) && decide (x < 12)) = false := by
          rcases hx with h | h
          · simp; intro h2; omega
          · simp; intro h2; omega
        rw [hd] at hkn
        clear hx hd
        go_wp2_with fail
        refine hkn.mono ?_
        rintro e w1 ⟨rfl, rfl⟩
        go_wp2
        go_ret2
        exact ⟨by rw [HX3.out]; rfl, hup⟩
      · obtain ⟨j, hj⟩ : ∃ j : Nat, x = j := ⟨x.toNat, by omega⟩
        have hj12 : j < 12 := by omega
        have hd : (decide (0 ≤ x) && decide (x < 12)) = true := by simp; omega
        rw [hd] at hkn
        have hadd : addS acc x = if acc.testBit j then (acc, 5) else (acc ||| 2 ^ j, 0) := by
          unfold addS
          rw [if_neg hx, hj]
          rfl
        rw [hadd] at HX2
        subst hj
        have hhas := has_any acc j wr hacc (by omega)
        have qo := or16k hacc (show j < 16 by omega)
        have hlt2 : acc ||| 2 ^ j < 65536 := Nat.or_lt_two_pow (n := 16) hacc (Nat.pow_lt_pow_right (by omega) (by omega))
        clear hx hd hadd
        go_wp2_with fail
        refine hkn.mono ?_
        rintro e w1 ⟨rfl, rfl⟩
        cases hb2 : acc.testBit j with
        | true =>
          rw [hb2] at hhas HX2
          have HX3 : Hid (S = (0, 5)) := by show S = _; rw [HX2.out]; rfl
          clear hb2 HX2
          go_wp2_with fail
          refine hhas.mono ?_
          rintro e w2 ⟨rfl, rfl⟩
          go_wp2
          go_ret2
          exact ⟨by rw [HX3.out]; rfl, hup⟩
        | false =>
          rw [hb2] at hhas HX2
          have HX3 : Hid (S = ofS (acc ||| 2 ^ j) (l.drop (k + 1))) := by show S = _; rw [HX2.out]; simp
          clear hb2 HX2
          obtain ⟨a2, ha2⟩ : ∃ a2, acc ||| 2 ^ j = a2 := ⟨_, rfl⟩
          rw [ha2] at qo hlt2 HX3
          go_wp2_with fail
          refine hhas.mono ?_
          rintro e w2 ⟨rfl, rfl⟩
          go_wp2
          go_roundw
          case rel => exact ⟨k + 1, a2, by go_num, by omega, hlt2, rfl, hup, HX3.out⟩
          case measure => simp [intOf]; omega
    · obtain rfl : k = n := by omega
      have HX3 : Hid (S = (acc, 0)) := by show S = _; rw [HX.out, List.drop_eq_nil_of_le (by rw [Hn.out]; omega)]; rfl
      go_wp2
      go_ret2
      exact ⟨by rw [HX3.out]; rfl, hup⟩

/-- The set of the first n numbers, and the error. -/
def fullS (n : Int) : Nat × Int := if n < 0 ∨ 12 < n then (0, 7) else (2 ^ n.toNat - 1, 0)
theorem full16 {k : Nat} (hk : k < 16) : IntKind.u16.wrap (IntKind.u16.wrap ((2 : Int) ^ k) - 1) = ((2 ^ k - 1 : Nat) : Int) := by
  rw [pow16 hk, wrap16]
  have : 2 ^ k < 2 ^ 16 := Nat.pow_lt_pow_right (by omega) hk
  have := Nat.two_pow_pos k
  omega
end Go.Proofs.YthepjpahabcpkaaDoor
