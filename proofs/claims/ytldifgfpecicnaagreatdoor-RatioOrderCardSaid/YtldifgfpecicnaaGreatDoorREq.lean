/- The reference's Equal at two integers that differ. -/
import Derived.Test.YtldifgfpecicnaaGreatDoorR1
namespace Go.Proofs.YtldifgfpecicnaaGreatDoor
open Go.RowKit

theorem first_diff : ∀ (l m : List Nat), l.length = m.length → l ≠ m → ∃ j, j < l.length ∧ l.getD j 0 ≠ m.getD j 0 ∧ ∀ i, i < j → l.getD i 0 = m.getD i 0
  | [], [], _, h => absurd rfl h
  | [], _ :: _, h, _ => by cases h
  | _ :: _, [], h, _ => by cases h
  | x :: l, y :: m, hl, hne => by
    by_cases h : x = y
    · subst h
      obtain ⟨j, h1, h2, h3⟩ := first_diff l m (by simpa using hl) (fun e => hne (by rw [e]))
      refine ⟨j + 1, by simpa using h1, by simpa using h2, fun i hi => ?_⟩
      match i with
      | 0 => rfl
      | i + 1 => simpa using h3 i (by omega)
    · exact ⟨0, by simp, by simpa using h, fun i hi => absurd hi (by omega)⟩

set_option maxRecDepth 100000 in
set_option maxHeartbeats 1000000 in
theorem requal_sign (s t : Bool) (A B : Option Addr) (c d n m : Nat) (w : World) (hs : (s != t) = true) :
    Calls Tryz.prog 53 #[.agg #[.bool s, .slice A n c], .agg #[.bool t, .slice B m d]] w (PB w false) := by
  obtain ⟨rfl, rfl⟩ | ⟨rfl, rfl⟩ : (s = true ∧ t = false) ∨ (s = false ∧ t = true) := by cases s <;> cases t <;> simp_all
  all_goals
    clear hs
    go_enter Tryz.func53, Tryz.ntmps53
    go_wp2
    go_ret
    exact ⟨rfl, ((Up.refl w).alloc _).alloc _⟩
set_option maxRecDepth 100000 in
set_option maxHeartbeats 1000000 in
theorem requal_len (s : Bool) (A B : Option Addr) (c d n m : Nat) (w : World) (hnm : ((n : Int) != (m : Int)) = true) :
    Calls Tryz.prog 53 #[.agg #[.bool s, .slice A n c], .agg #[.bool s, .slice B m d]] w (PB w false) := by
  have hs : (s != s) = false := by simp
  go_enter Tryz.func53, Tryz.ntmps53
  go_wp2
  go_ret
  exact ⟨rfl, ((Up.refl w).alloc _).alloc _⟩
set_option maxRecDepth 100000 in
set_option maxHeartbeats 1000000 in
theorem requal_at (s : Bool) (A B : Option Addr) (c d n : Nat) (l m : List Nat) (w : World) (hA : Lim w A l) (hB : Lim w B m) (hw : W32 l) (hw' : W32 m) (Hn : Hid (n = l.length)) (Hm : Hid (n = m.length)) (hn : n ≤ 1000000)
    (j : Nat) (hj : j < n) (Hd : Hid (l.getD j 0 ≠ m.getD j 0)) (Hs : Hid (∀ i, i < j → l.getD i 0 = m.getD i 0)) :
    Calls Tryz.prog 53 #[.agg #[.bool s, .slice A n c], .agg #[.bool s, .slice B n d]] w (PB w false) := by
  have hs : (s != s) = false := by simp
  go_enter Tryz.func53, Tryz.ntmps53
  go_wp2
  go_loopw [5] (fun i wr => ∃ k : Nat, k ≤ j ∧ i = .int .i64 k ∧ Up w wr ∧ wr.cell? ⟨w.heap.size, 1, none⟩ = some (.slice A n c) ∧ wr.cell? ⟨w.heap.size + 1, 1, none⟩ = some (.slice B n d)) (fun i _ => n - (intOf i).toNat)
  case atStart => exact ⟨0, by omega, rfl, ((Up.refl w).alloc _).alloc _, by go_simp, by go_simp⟩
  case round =>
    obtain ⟨k, hk, rfl, hup, hc1, hc2⟩ := hrel
    have hkn : k < n := by omega
    obtain ⟨ad, rfl, hb, hcell⟩ := (hA.up hup).at_ (k := k) (by have := Hn.out; omega)
    obtain ⟨bd, rfl, hb2, hcell2⟩ := (hB.up hup).at_ (k := k) (by have := Hm.out; omega)
    have hx := W32.getD hw k
    have hy := W32.getD hw' k
    by_cases hlt : k < j
    · have he := Hs.out k hlt
      rw [← he] at hcell2
      obtain ⟨x, hxe⟩ : ∃ x, x = l.getD k 0 := ⟨_, rfl⟩
      rw [← hxe] at hcell hcell2 hx
      have hq : ((x : Int) != (x : Int)) = false := by simp
      clear hxe hw hA hB hw' he hy
      go_wp2
      go_quiet (fail)
      go_wp2
      go_roundw
      case rel => exact ⟨k + 1, by omega, by go_num, hup.drewN _, by go_simp, by go_simp⟩
      case measure => simp [intOf]; omega
    · obtain rfl : k = j := by omega
      have he := Hd.out
      obtain ⟨x, hxe⟩ : ∃ x, x = l.getD k 0 := ⟨_, rfl⟩
      obtain ⟨y, hye⟩ : ∃ y, y = m.getD k 0 := ⟨_, rfl⟩
      rw [← hxe] at hcell hx he
      rw [← hye] at hcell2 hy he
      have hq : ((x : Int) != (y : Int)) = true := by rw [bne_iff_ne]; omega
      clear hxe hye hw hA hB hw' he
      go_wp2
      go_quiet (fail)
      go_wp2
      go_ret
      exact ⟨rfl, hup.drewN _⟩
theorem requalN {w : World} {v v' : Value} {x y : Int} (h : Iz w v x) (h' : Iz w v' y) (hne : x ≠ y) : Calls Tryz.prog 53 #[v, v'] w (PB w false) := by
  obtain ⟨⟨s, A, n, c, rfl, Hs, Hn, hl, hc, _⟩, hz⟩ := h
  obtain ⟨⟨t, B, m, d, rfl, Ht, Hm, hm, hd, _⟩, hz'⟩ := h'
  by_cases hst : s = t
  · subst hst
    by_cases hnm : n = m
    · subst hnm
      have hab : x.natAbs ≠ y.natAbs := by
        intro e
        have h1 := Hs.out
        have h2 := Ht.out
        have h3 : decide (x < 0) = decide (y < 0) := h1.symm.trans h2
        by_cases hx : x < 0
        · rw [decide_eq_true hx] at h3; have := of_decide_eq_true h3.symm; omega
        · rw [decide_eq_false hx] at h3; have := of_decide_eq_false h3.symm; omega
      have hll : lim x.natAbs ≠ lim y.natAbs := fun e => hab (by rw [← val_lim x.natAbs, e, val_lim])
      obtain ⟨j, h1, h2, h3⟩ := first_diff _ _ (Hn.out.symm.trans Hm.out) hll
      exact requal_at s A B c d n _ _ w hl hm (dig_lim _).w32 (dig_lim _).w32 Hn Hm (by rw [Hn.out]; have := len_of_top hz; omega) j (by rw [Hn.out]; exact h1) h2 h3
    · exact requal_len s A B c d n m w (by rw [bne_iff_ne]; omega)
  · exact requal_sign s t A B c d n m w (by cases s <;> cases t <;> simp_all)
end Go.Proofs.YtldifgfpecicnaaGreatDoor
