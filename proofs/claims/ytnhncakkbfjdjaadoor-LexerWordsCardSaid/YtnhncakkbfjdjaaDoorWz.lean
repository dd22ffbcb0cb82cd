/- Walks: equal lists are found equal. -/
import Derived.Test.YtnhncakkbfjdjaaDoorWy
import Derived.RegionTactic
namespace Go.Proofs.YtnhncakkbfjdjaaDoor
open Go.RowKit

set_option maxRecDepth 100000 in
set_option maxHeartbeats 2000000 in
theorem strings_any (A B : Option Addr) (n m c c' : Nat) (l : List (List Nat)) (w : World) (hA : Vals w A (sb l)) (hB : Vals w B (sb l)) (Hn : Hid (n = l.length)) (Hm : Hid (m = l.length)) (hn : n ≤ 1000000) :
    Calls Tryd.prog 24 #[.slice A n c, .slice B m c'] w (RetB w true) := by
  obtain rfl : n = m := Hn.out.trans Hm.out.symm
  go_enter Tryd.func24, Tryd.ntmps24
  go_wp2
  go_loopw [5] (fun i wr => ∃ k : Nat, k ≤ n ∧ i = .int .i64 k ∧ Up w wr) (fun i _ => (n - (intOf i).toNat))
  case atStart => exact ⟨0, by omega, rfl, Up.refl w⟩
  case round =>
    obtain ⟨k, hk, rfl, hup⟩ := hrel
    by_cases hlt : k < n
    · have hk1 : k < (l.map bs).length := by rw [List.length_map, ← Hn.out]; exact hlt
      have hv1 : (sb l)[k]? = some (.string ((l.map bs).getD k ⟨#[]⟩)) := ss_get hk1
      obtain ⟨x, hx⟩ : ∃ x, x = (l.map bs).getD k ⟨#[]⟩ := ⟨_, rfl⟩
      rw [← hx] at hv1
      obtain ⟨ad, hAd, hb, hcell⟩ := (hA.up hup).at_ hv1
      obtain ⟨bd, hBd, hb2, hcell2⟩ := (hB.up hup).at_ hv1
      subst hAd hBd
      clear hv1 hx hA hB
      have hq : (x.toList == x.toList) = true := by simp
      go_wp2
      go_quiet (fail)
      go_wp2
      go_roundw
      case rel => exact ⟨k + 1, by omega, by go_num, hup.drewN _⟩
      case measure => simp [intOf] <;> omega
    · obtain rfl : k = n := by omega
      go_wp2
      go_ret
      exact ⟨rfl, hup⟩
set_option maxRecDepth 100000 in
set_option maxHeartbeats 4000000 in
theorem same_true (A B : Option Addr) (n m c c' : Nat) (l : List (Tk × Nat)) (w : World) (hA : Tks w A l) (hB : Tks w B l) (Hn : Hid (n = l.length)) (Hm : Hid (m = l.length)) (hn : n ≤ 1000000) :
    Calls Tryd.prog 14 #[.slice A n c, .slice B m c', .bool true] w (RetB w true) := by
  obtain rfl : n = m := Hn.out.trans Hm.out.symm
  go_enter Tryd.func14, Tryd.ntmps14
  go_wp2
  go_loopw [7] (fun i wr => ∃ k : Nat, k ≤ n ∧ i = .int .i64 k ∧ Up w wr) (fun i _ => (n - (intOf i).toNat))
  case atStart => exact ⟨0, by omega, rfl, Up.refl w⟩
  case round =>
    obtain ⟨k, hk, rfl, hup⟩ := hrel
    by_cases hlt : k < n
    · have hk1 : k < l.length := by rw [← Hn.out]; exact hlt
      obtain ⟨g, hAg, g0, g1, g2, g3, g4⟩ := (hA.up hup) k _ (List.getElem?_eq_getElem hk1)
      obtain ⟨h, hBh, h0, h1, h2, h3, h4⟩ := (hB.up hup) k _ (List.getElem?_eq_getElem hk1)
      subst hAg hBh
      obtain ⟨x, Hx⟩ : ∃ x : Tk × Nat, Hid (x = l[k]'hk1) := ⟨_, rfl⟩
      rw [← Hx.out] at g0 g1 g2 g3 g4 h0 h1 h2 h3 h4
      obtain ⟨⟨kd, tx, nn, st⟩, ln⟩ := x
      obtain ⟨a, Ha⟩ : ∃ a, Hid (a = bs tx) := ⟨_, rfl⟩
      obtain ⟨b, Hb⟩ : ∃ b, Hid (b = bs st) := ⟨_, rfl⟩
      replace g0 : wr.cell? ⟨g, k * 5, none⟩ = some (.int .i64 kd) := g0
      replace g1 : wr.cell? ⟨g, k * 5 + 1, none⟩ = some (.string a) := by rw [Ha.out]; exact g1
      replace g2 : wr.cell? ⟨g, k * 5 + 2, none⟩ = some (.int .i64 nn) := g2
      replace g3 : wr.cell? ⟨g, k * 5 + 3, none⟩ = some (.string b) := by rw [Hb.out]; exact g3
      replace g4 : wr.cell? ⟨g, k * 5 + 4, none⟩ = some (.int .i64 (ln : Int)) := g4
      replace h0 : wr.cell? ⟨h, k * 5, none⟩ = some (.int .i64 kd) := h0
      replace h1 : wr.cell? ⟨h, k * 5 + 1, none⟩ = some (.string a) := by rw [Ha.out]; exact h1
      replace h2 : wr.cell? ⟨h, k * 5 + 2, none⟩ = some (.int .i64 nn) := h2
      replace h3 : wr.cell? ⟨h, k * 5 + 3, none⟩ = some (.string b) := by rw [Hb.out]; exact h3
      replace h4 : wr.cell? ⟨h, k * 5 + 4, none⟩ = some (.int .i64 (ln : Int)) := h4
      have hgl : g < wr.heap.size := cell_lt g0
      have hhl : h < wr.heap.size := cell_lt h0
      clear hA hB
      have qa : (a.toList == a.toList) = true := by simp
      have qb : (b.toList == b.toList) = true := by simp
      go_wp2
      go_region
      all_goals
        go_wp2
        go_roundw
        case rel => exact ⟨k + 1, by omega, by go_num, by first | exact ((hup.alloc _).alloc _).drew | (trace_state; sorry)⟩
        case measure => simp [intOf] <;> omega
    · obtain rfl : k = n := by omega
      go_wp2
      go_ret
      exact ⟨rfl, hup⟩
set_option maxRecDepth 100000 in
set_option maxHeartbeats 4000000 in
theorem same_words (A B : Option Addr) (n m c c' : Nat) (l l' : List (Tk × Nat)) (w : World) (hA : Tks w A l) (hB : Tks w B l') (Hn : Hid (n = l.length)) (Hm : Hid (m = l'.length)) (Hll : Hid (l.map (·.1) = l'.map (·.1))) (hn : n ≤ 1000000) :
    Calls Tryd.prog 14 #[.slice A n c, .slice B m c', .bool false] w (RetB w true) := by
  obtain rfl : n = m := by have := congrArg List.length Hll.out; rw [List.length_map, List.length_map] at this; rw [Hn.out, Hm.out, this]
  go_enter Tryd.func14, Tryd.ntmps14
  go_wp2
  go_loopw [7] (fun i wr => ∃ k : Nat, k ≤ n ∧ i = .int .i64 k ∧ Up w wr) (fun i _ => (n - (intOf i).toNat))
  case atStart => exact ⟨0, by omega, rfl, Up.refl w⟩
  case round =>
    obtain ⟨k, hk, rfl, hup⟩ := hrel
    by_cases hlt : k < n
    · have hk1 : k < l.length := by rw [← Hn.out]; exact hlt
      have hk2 : k < l'.length := by rw [← Hm.out]; exact hlt
      obtain ⟨g, hAg, g0, g1, g2, g3, g4⟩ := (hA.up hup) k _ (List.getElem?_eq_getElem hk1)
      obtain ⟨h, hBh, h0, h1, h2, h3, h4⟩ := (hB.up hup) k _ (List.getElem?_eq_getElem hk2)
      subst hAg hBh
      obtain ⟨x, Hx⟩ : ∃ x : Tk × Nat, Hid (x = l[k]'hk1) := ⟨_, rfl⟩
      obtain ⟨y, Hy⟩ : ∃ y : Tk × Nat, Hid (y = l'[k]'hk2) := ⟨_, rfl⟩
      have hxy : y.1 = x.1 := by
        have h : (l.map (·.1))[k]? = (l'.map (·.1))[k]? := by rw [Hll.out]
        rw [List.getElem?_map, List.getElem?_map, List.getElem?_eq_getElem hk1, List.getElem?_eq_getElem hk2] at h
        rw [Hx.out, Hy.out]
        exact (by simpa using h : (l[k]'hk1).1 = (l'[k]'hk2).1).symm
      rw [← Hx.out] at g0 g1 g2 g3 g4
      rw [← Hy.out] at h0 h1 h2 h3 h4
      obtain ⟨y1, ln2⟩ := y
      obtain rfl : y1 = x.1 := hxy
      obtain ⟨⟨kd, tx, nn, st⟩, ln⟩ := x
      obtain ⟨a, Ha⟩ : ∃ a, Hid (a = bs tx) := ⟨_, rfl⟩
      obtain ⟨b, Hb⟩ : ∃ b, Hid (b = bs st) := ⟨_, rfl⟩
      replace g0 : wr.cell? ⟨g, k * 5, none⟩ = some (.int .i64 kd) := g0
      replace g1 : wr.cell? ⟨g, k * 5 + 1, none⟩ = some (.string a) := by rw [Ha.out]; exact g1
      replace g2 : wr.cell? ⟨g, k * 5 + 2, none⟩ = some (.int .i64 nn) := g2
      replace g3 : wr.cell? ⟨g, k * 5 + 3, none⟩ = some (.string b) := by rw [Hb.out]; exact g3
      replace g4 : wr.cell? ⟨g, k * 5 + 4, none⟩ = some (.int .i64 (ln : Int)) := g4
      replace h0 : wr.cell? ⟨h, k * 5, none⟩ = some (.int .i64 kd) := h0
      replace h1 : wr.cell? ⟨h, k * 5 + 1, none⟩ = some (.string a) := by rw [Ha.out]; exact h1
      replace h2 : wr.cell? ⟨h, k * 5 + 2, none⟩ = some (.int .i64 nn) := h2
      replace h3 : wr.cell? ⟨h, k * 5 + 3, none⟩ = some (.string b) := by rw [Hb.out]; exact h3
      replace h4 : wr.cell? ⟨h, k * 5 + 4, none⟩ = some (.int .i64 (ln2 : Int)) := h4
      have hgl : g < wr.heap.size := cell_lt g0
      have hhl : h < wr.heap.size := cell_lt h0
      clear hA hB
      have qa : (a.toList == a.toList) = true := by simp
      have qb : (b.toList == b.toList) = true := by simp
      go_wp2
      go_region
      all_goals
        go_wp2
        go_roundw
        case rel => exact ⟨k + 1, by omega, by go_num, by first | exact ((hup.alloc _).alloc _).drew | (trace_state; sorry)⟩
        case measure => simp [intOf] <;> omega
    · obtain rfl : k = n := by omega
      go_wp2
      go_ret
      exact ⟨rfl, hup⟩
end Go.Proofs.YtnhncakkbfjdjaaDoor
