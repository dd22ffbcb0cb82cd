/- Walks: lists of sets compared; the set with other members. -/
import Derived.Test.YthepjpahabcpkaaDoorSi
namespace Go.Proofs.YthepjpahabcpkaaDoor
open Go.RowKit

theorem us_at {l : List Nat} {k : Nat} (h : k < l.length) : (us l)[k]? = some (.int .u16 ((l[k]'h : Nat) : Int)) := by simp [us, sv, h]
theorem ns_at {l : List Nat} {k : Nat} (h : k < l.length) : (ns l)[k]? = some (.int .i64 ((l[k]'h : Nat) : Int)) := by simp [ns, is, h]
set_option maxRecDepth 100000 in
set_option maxHeartbeats 2000000 in
theorem same_any (A B : Option Addr) (n c c' : Nat) (l : List Nat) (w : World) (hA : Vals w A (us l)) (hB : Vals w B (us l)) (Hn : Hid (n = l.length)) (hn : n ≤ 1000000) :
    Calls Tryd.prog 30 #[.slice A n c, .slice B n c'] w (RetV w (.bool true)) := by
  go_enter Tryd.func30, Tryd.ntmps30
  go_wp2
  go_loopw [5] (fun i wr => ∃ k : Nat, k ≤ n ∧ i = .int .i64 (k : Int) ∧ Up w wr) (fun i _ => (n - (intOf i).toNat))
  case atStart => exact ⟨0, by omega, rfl, Up.refl w⟩
  case round =>
    obtain ⟨k, hk, rfl, hup⟩ := hrel
    by_cases hlt : k < n
    · have hk1 : k < l.length := by rw [← Hn.out]; exact hlt
      have hv1 := us_at hk1
      obtain ⟨x, hx⟩ : ∃ x, l[k]'hk1 = x := ⟨_, rfl⟩
      rw [hx] at hv1
      obtain ⟨ad, hAd, hb, hcell⟩ := (hA.up hup).at_ hv1
      obtain ⟨bd, hBd, hb2, hcell2⟩ := (hB.up hup).at_ hv1
      subst hAd hBd
      clear hv1 hx hA hB
      go_wp2
      go_quiet (fail)
      go_wp2
      go_roundw
      case rel => exact ⟨k + 1, by omega, by go_num, hup.drewN _⟩
      case measure => simp [intOf] <;> omega
    · obtain rfl : k = n := by omega
      go_wp2
      go_ret
      exact ⟨rfl, hup⟩

theorem Vals.other {w w' : World} {A : Option Addr} {l : List Value} {g : Nat} (h : Vals w A l) (hn : NewB (g + 1) A) (hg : w.grownBy w' (some g)) : Vals w' A l := by
  rcases h with rfl | ⟨ad, rfl, hb, hc⟩
  · exact Or.inl rfl
  · have hg1 := hn ad rfl
    refine Or.inr ⟨ad, rfl, Nat.lt_of_lt_of_le hb hg.size, fun j x hx => ?_⟩
    rw [← hc j x hx]
    unfold World.cell?
    rw [addBlock, hg.block ad.block hb (fun e => by cases e; omega)]
/-- A set with other members, beside those in acc, and the error. -/
def renS (tos : List Int) (acc : Nat) : List Nat → Nat × Int
  | [] => (acc, 0)
  | i :: r => match tos[i]? with
    | none => (0, 7)
    | some x => if (addS acc x).2 = 0 then renS tos (addS acc x).1 r else (0, (addS acc x).2)
set_option maxRecDepth 100000 in
set_option maxHeartbeats 4000000 in
theorem rename_any (s : Nat) (A : Option Addr) (n c : Nat) (l : List Int) (w : World) (hT : Tabs w) (hs : s < 65536) (hA : Vals w A (is l)) (Hn : Hid (n = l.length)) :
    Calls Tryd.prog 38 #[.int .u16 (s : Int), .slice A n c] w (RetE w (renS l 0 (mem 16 s))) := by
  obtain ⟨S, HS⟩ : ∃ S, Hid (S = renS l 0 (mem 16 s)) := ⟨_, rfl⟩
  rw [← HS.out]
  go_enter Tryd.func38, Tryd.ntmps38
  go_wp2_with fail
  refine (members_any s (w.alloc (.cells #[.int .u16 0] 25)) (hT.up ((Up.refl w).alloc _)) hs).mono ?_
  rintro e w1 ⟨v, rfl, hown, hu1⟩
  obtain ⟨M, HM⟩ : ∃ M, Hid (M = mem 16 s) := ⟨_, rfl⟩
  have Hm : Hid (cnt s = M.length) := by show _ = _; rw [HM.out]; rfl
  obtain ⟨m, hm⟩ : ∃ m, cnt s = m := ⟨_, rfl⟩
  have hm16 : m ≤ 16 := by rw [← hm]; exact cnt_le s
  rw [hm] at hown Hm
  rw [← HM.out] at hown HS
  clear hm
  obtain ⟨A1, c1, rfl, hc1, hV1, _, hN1⟩ := own_vals hown
  rw [World.size_alloc] at hN1
  clear hown
  have hup1 : Up w w1 := ((Up.refl w).alloc _).trans_below (Below.mono hu1 (by simp))
  have hbox1 : Boxed w1 w.heap.size 25 (.int .u16 ((0 : Nat) : Int)) := (Boxed.new w _ _).kept (up_grown hu1) (by simp)
  go_wp2
  go_loopw [13] (fun v wr => ∃ k acc : Nat, v = .int .i64 (k : Int) ∧ k ≤ m ∧ acc < 65536 ∧ Boxed wr w.heap.size 25 (.int .u16 (acc : Int)) ∧ Up w wr ∧ Vals wr A1 (ns M) ∧ Hid (S = renS l acc (M.drop k))) (fun v _ => m - (intOf v).toNat)
  case atStart => exact ⟨0, 0, rfl, by omega, by omega, hbox1, hup1, hV1, HS.out⟩
  case round =>
    obtain ⟨k, acc, rfl, hk, hacc, hbox, hup, hV, HX⟩ := hrel
    by_cases hlt : k < m
    · have hk1 : k < M.length := by rw [← Hm.out]; exact hlt
      obtain ⟨i, Hi⟩ : ∃ i, Hid (i = M[k]'hk1) := ⟨_, rfl⟩
      have hv := ns_at hk1
      rw [← Hi.out] at hv
      obtain ⟨ad, hAd, hb, hcell⟩ := hV.at_ hv
      subst hAd
      have HX2 : Hid (S = match l[i]? with | none => (0, 7) | some x => if (addS acc x).2 = 0 then renS l (addS acc x).1 (M.drop (k + 1)) else (0, (addS acc x).2)) := by
        show S = _
        rw [HX.out, drop_at M k hk1, ← Hi.out]
        rfl
      clear hv HX
      by_cases hin : i < n
      · have hi1 : i < l.length := by rw [← Hn.out]; exact hin
        obtain ⟨x, Hx⟩ : ∃ x, Hid (x = l[i]'hi1) := ⟨_, rfl⟩
        have hv2 := is_at hi1
        rw [← Hx.out] at hv2
        obtain ⟨ad2, hAd2, hb2, hcell2⟩ := (hA.up hup).at_ hv2
        subst hAd2
        have HX3 : Hid (S = if (addS acc x).2 = 0 then renS l (addS acc x).1 (M.drop (k + 1)) else (0, (addS acc x).2)) := by
          show S = _
          rw [HX2.out, List.getElem?_eq_getElem hi1, ← Hx.out]
        have hadd := add_any w.heap.size acc x wr hbox hacc
        have hacc2 : (addS acc x).1 < 2 ^ 16 := addS_lt (by omega) hacc
        obtain ⟨p, hp⟩ : ∃ p, addS acc x = p := ⟨_, rfl⟩
        rw [hp] at hadd HX3 hacc2
        obtain ⟨acc2, er⟩ := p
        dsimp only at hadd hacc2
        have dn : decide (n ≤ i) = false := decide_eq_false (by omega)
        clear hv2 hp hA HX2
        go_wp2_with fail
        refine hadd.mono ?_
        rintro e w2 ⟨rfl, hbox2, hg2⟩
        have hup2 : Up w w2 := hup.grown hg2 (fun k e => by cases e; exact Nat.le_refl _)
        by_cases he : er = 0
        · subst he
          have HX4 : Hid (S = renS l acc2 (M.drop (k + 1))) := by show S = _; rw [HX3.out, if_pos rfl]
          have hV2 := hV.other hN1 hg2
          go_wp2
          go_roundw
          case rel => exact ⟨k + 1, acc2, by go_num, by omega, hacc2, hbox2, hup2, hV2, HX4.out⟩
          case measure => simp [intOf]; omega
        · have HX4 : Hid (S = (0, er)) := by show S = _; rw [HX3.out, if_neg he]
          have ne : (er != 0) = true := by rw [bne_iff_ne]; exact he
          go_wp2
          go_ret2
          exact ⟨by rw [HX4.out]; rfl, hup2⟩
      · have HX3 : Hid (S = (0, 7)) := by
          show S = _
          rw [HX2.out, List.getElem?_eq_none (by rw [← Hn.out]; omega)]
        have dn : decide (n ≤ i) = true := decide_eq_true (by omega)
        go_wp2
        go_ret2
        exact ⟨by rw [HX3.out]; rfl, hup⟩
    · obtain rfl : k = m := by omega
      have HX3 : Hid (S = (acc, 0)) := by show S = _; rw [HX.out, List.drop_eq_nil_of_le (by rw [Hm.out]; omega)]; rfl
      have hc := hbox.cell
      go_wp2
      go_ret2
      exact ⟨by rw [HX3.out]; rfl, hup⟩
end Go.Proofs.YthepjpahabcpkaaDoor
