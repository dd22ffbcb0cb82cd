/- Walks: the set of some numbers, by both; members and their number by the reference. -/
import Derived.Test.YthepjpahabcpkaaDoorSc
namespace Go.Proofs.YthepjpahabcpkaaDoor
open Go.RowKit

/-- The set of some numbers, beside those in acc, and the error. -/
def ofS (acc : Nat) : List Int → Nat × Int
  | [] => (acc, 0)
  | i :: r => if (addS acc i).2 = 0 then ofS (addS acc i).1 r else (0, (addS acc i).2)
theorem addS_lt {acc : Nat} {i : Int} {m : Nat} (hm : 12 ≤ m) (h : acc < 2 ^ m) : (addS acc i).1 < 2 ^ m := by
  unfold addS
  split
  · exact h
  · split
    · exact h
    · exact Nat.or_lt_two_pow h (Nat.pow_lt_pow_right (by omega) (by omega))
theorem is_at {l : List Int} {k : Nat} (h : k < l.length) : (is l)[k]? = some (.int .i64 (l[k]'h)) := by simp [is, h]
theorem drop_at {α : Type} (l : List α) (k : Nat) (h : k < l.length) : l.drop k = l[k]'h :: l.drop (k + 1) := List.drop_eq_getElem_cons h
/-- What returns a set and an error. -/
def RetE (w : World) (p : Nat × Int) (e : Ending) (w' : World) : Prop := e = .returned (.tuple #[.int .u16 (p.1 : Int), .int .i64 p.2]) ∧ Up w w'
set_option maxRecDepth 100000 in
set_option maxHeartbeats 2000000 in
theorem of_any (A : Option Addr) (n c : Nat) (l : List Int) (w : World) (hA : Vals w A (is l)) (Hn : Hid (n = l.length)) (hn : n ≤ 1000000) : Calls Tryd.prog 14 #[.slice A n c] w (RetE w (ofS 0 l)) := by
  obtain ⟨S, HS⟩ : ∃ S, Hid (S = ofS 0 l) := ⟨_, rfl⟩
  rw [← HS.out]
  go_enter Tryd.func14, Tryd.ntmps14
  go_wp2
  go_loopw [10] (fun v wr => ∃ k acc : Nat, v = .int .i64 (k : Int) ∧ k ≤ n ∧ acc < 65536 ∧ Boxed wr w.heap.size 25 (.int .u16 (acc : Int)) ∧ Up w wr ∧ Hid (S = ofS acc (l.drop k))) (fun v _ => n - (intOf v).toNat)
  case atStart => exact ⟨0, 0, rfl, by omega, by omega, Boxed.new _ _ _, (Up.refl w).alloc _, HS.out⟩
  case round =>
    obtain ⟨k, acc, rfl, hk, hacc, hbox, hup, HX⟩ := hrel
    by_cases hlt : k < n
    · have hk1 : k < l.length := by rw [← Hn.out]; exact hlt
      obtain ⟨x, Hx⟩ : ∃ x, Hid (x = l[k]'hk1) := ⟨_, rfl⟩
      have hv := is_at hk1
      rw [← Hx.out] at hv
      obtain ⟨ad, hAd, hb, hcell⟩ := (hA.up hup).at_ hv
      subst hAd
      have HX2 : Hid (S = if (addS acc x).2 = 0 then ofS (addS acc x).1 (l.drop (k + 1)) else (0, (addS acc x).2)) := by
        show S = _
        rw [HX.out, drop_at l k hk1, ← Hx.out]
        rfl
      have hadd := add_any w.heap.size acc x wr hbox hacc
      have hacc2 : (addS acc x).1 < 2 ^ 16 := addS_lt (by omega) hacc
      obtain ⟨p, hp⟩ : ∃ p, addS acc x = p := ⟨_, rfl⟩
      rw [hp] at hadd HX2 hacc2
      obtain ⟨acc2, er⟩ := p
      dsimp only at hadd hacc2
      clear hv hp hA HX
      go_wp2_with fail
      refine hadd.mono ?_
      rintro e w1 ⟨rfl, hbox1, hg1⟩
      have hup1 : Up w w1 := hup.grown hg1 (fun k e => by cases e; exact Nat.le_refl _)
      by_cases he : er = 0
      · subst he
        have HX3 : Hid (S = ofS acc2 (l.drop (k + 1))) := by show S = _; rw [HX2.out, if_pos rfl]
        go_wp2
        go_roundw
        case rel => exact ⟨k + 1, acc2, by go_num, by omega, hacc2, hbox1, hup1, HX3.out⟩
        case measure => simp [intOf]; omega
      · have HX3 : Hid (S = (0, er)) := by show S = _; rw [HX2.out, if_neg he]
        have ne : (er != 0) = true := by rw [bne_iff_ne]; exact he
        go_wp2
        go_ret2
        exact ⟨by rw [HX3.out]; rfl, hup1⟩
    · obtain rfl : k = n := by omega
      have HX3 : Hid (S = (acc, 0)) := by show S = _; rw [HX.out, List.drop_eq_nil_of_le (by rw [Hn.out]; omega)]; rfl
      have hc := hbox.cell
      go_wp2
      go_ret2
      exact ⟨by rw [HX3.out]; rfl, hup⟩

set_option maxRecDepth 100000 in
theorem known_any (i : Int) (w : World) : Calls Tryd.prog 41 #[.int .i64 i] w fun e w' => e = .returned (.bool (decide (0 ≤ i) && decide (i < 12))) ∧ w' = w := by
  by_cases h0 : 0 ≤ i
  · have d0 : decide (0 ≤ i) = true := decide_eq_true h0
    rw [d0]
    clear h0
    go_enter Tryd.func41, Tryd.ntmps41
    go_wp2
    go_ret
    exact ⟨rfl, rfl⟩
  · have d0 : decide (0 ≤ i) = false := decide_eq_false h0
    rw [d0]
    clear h0
    go_enter Tryd.func41, Tryd.ntmps41
    go_wp2
    go_ret
    exact ⟨rfl, rfl⟩
theorem shr_bit {s k : Nat} (hs : s < 65536) : (bits .and .u16 ((s : Int) / (2 : Int) ^ k) 1 == 1) = s.testBit k := by
  have e : (s : Int) / (2 : Int) ^ k = ((s / 2 ^ k : Nat) : Int) := by rw [Int.natCast_ediv, Int.natCast_pow]; rfl
  have hlt : s / 2 ^ k < 65536 := Nat.lt_of_le_of_lt (Nat.div_le_self _ _) hs
  have := and16 (b := 1) hlt
  rw [show ((1 : Nat) : Int) = 1 from rfl] at this
  rw [e, this, Nat.and_one_is_mod, Nat.testBit_eq_decide_div_mod_eq]
  by_cases h : s / 2 ^ k % 2 = 1
  · simp [h]
  · simp [h]
    omega
set_option maxRecDepth 100000 in
theorem has_any (s k : Nat) (w : World) (hs : s < 65536) (hk : k < 16) : Calls Tryd.prog 42 #[.int .u16 (s : Int), .int .i64 (k : Int)] w fun e w' => e = .returned (.bool (s.testBit k)) ∧ w' = w := by
  have d0 : decide ((0 : Int) ≤ k) = true := decide_eq_true (by omega)
  have d1 : decide ((k : Int) < 16) = true := decide_eq_true (by omega)
  have q := shr_bit hs (k := k)
  go_enter Tryd.func42, Tryd.ntmps42
  go_wp2
  go_ret
  exact ⟨rfl, rfl⟩
end Go.Proofs.YthepjpahabcpkaaDoor
