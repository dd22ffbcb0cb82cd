/- Walks: equality of lists, copies, what is short. -/
import Derived.Test.YtcgoogdjgocjbaaF
import Derived.Deep.QuietTactic
import Derived.BigQuiet
import Derived.Lib.SliceRun
namespace Go.Proofs.Ytcgoogdjgocjbaa
open Go.RowKit

theorem take_next {α : Type} {l m : List α} {k : Nat} {d : α} (h : l.take k = m.take k) (hl : k < l.length) (hm : k < m.length) (he : l.getD k d = m.getD k d) : l.take (k + 1) = m.take (k + 1) := by
  have h1 : ∀ x : List α, k < x.length → x.take (k + 1) = x.take k ++ [x.getD k d] := fun x hx => by rw [List.take_add_one, List.getElem?_eq_getElem hx]; simp [List.getD, hx]
  rw [h1 l hl, h1 m hm, h, he]
theorem own_growU0 {w w' w0 : World} {e : TypeId} {n : Nat} {v v' : Value} {l : List Value} (_ : w'.ownsRow w0.heap.size e 1 v' n l) (hup : Up w0 w) (hg : w.grownBy w' v.ownBlock) (hr : ∀ k, v.ownBlock = some k → w0.heap.size ≤ k) : Up w0 w' := hup.grown hg hr
/-- What a copy returns. -/
def RetCl (w : World) (n : Nat) (vs : List Value) (e : Ending) (w' : World) : Prop := ∃ A' c', e = .returned (.slice A' n c') ∧ Vals w' A' vs ∧ n ≤ c' ∧ Up w w'
theorem str_ne {x y : ByteArray} (h : x ≠ y) : (x.toList == y.toList) = false := by
  rw [beq_eq_false_iff_ne, ByteArray.toList_eq, ByteArray.toList_eq]
  exact fun e => h (Go.WideShapes.bytes_inj e)
set_option maxRecDepth 1000000 in
set_option maxHeartbeats 4000000 in
theorem same_any (A B : Option Addr) (n m c c' : Nat) (l l' : List ByteArray) (w : World) (hA : Vals w A (ss l)) (hB : Vals w B (ss l')) (Hn : Hid (n = l.length)) (Hm : Hid (m = l'.length)) (hn : n ≤ 1000000) (hm : m ≤ 1000000) :
    Calls Try.prog 22 #[.slice A n c, .slice B m c'] w fun e w' => ∃ r : Bool, e = .returned (.bool r) ∧ (r = true ↔ l = l') ∧ Up w w' := by
  by_cases hnm : n = m
  · subst hnm
    go_enter Try.func22, Try.ntmps22
    go_wp2
    go_loopw [5] (fun i wr => ∃ k : Nat, k ≤ n ∧ i = .int .i64 k ∧ Up w wr ∧ Hid (l.take k = l'.take k)) (fun i _ => (n - (intOf i).toNat))
    case atStart => exact ⟨0, by omega, rfl, Up.refl w, rfl⟩
    case round =>
      obtain ⟨k, hk, rfl, hup, HT⟩ := hrel
      by_cases hlt : k < n
      · have hk1 : k < l.length := by have := Hn.out; omega
        have hk2 : k < l'.length := by have := Hm.out; omega
        obtain ⟨x, hx⟩ : ∃ x, x = l.getD k ⟨#[]⟩ := ⟨_, rfl⟩
        obtain ⟨y, hy⟩ : ∃ y, y = l'.getD k ⟨#[]⟩ := ⟨_, rfl⟩
        have hv1 := ss_get hk1
        have hv2 := ss_get hk2
        rw [← hx] at hv1
        rw [← hy] at hv2
        obtain ⟨ad, hAd, hb, hcell⟩ := (hA.up hup).at_ hv1
        obtain ⟨bd, hBd, hb2, hcell2⟩ := (hB.up hup).at_ hv2
        subst hAd hBd
        have HX := hide hx
        have HY := hide hy
        clear hv1 hv2 hx hy hA hB
        by_cases hxy : x = y
        · have HE : Hid (l.take (k + 1) = l'.take (k + 1)) := take_next HT.out hk1 hk2 (HX.out.symm.trans (hxy.trans HY.out))
          subst hxy
          have hq : (x.toList == x.toList) = true := by simp
          go_wp2
          go_quiet (fail)
          go_wp2
          go_roundw
          case rel => exact ⟨k + 1, by omega, by go_num, hup.drewN _, HE⟩
          case measure => simp [intOf] <;> omega
        · have hq : (x.toList == y.toList) = false := str_ne hxy
          have HE : Hid (l ≠ l') := fun e => hxy (by rw [HX.out, HY.out, e])
          clear hxy
          go_wp2
          go_quiet (fail)
          go_wp2
          go_ret
          exact ⟨false, rfl, ⟨fun h => (by cases h), fun h => absurd h HE.out⟩, hup.drewN _⟩
      · obtain rfl : k = n := by omega
        have HE : Hid (l = l') := by
          have h := HT.out
          rw [List.take_of_length_le (by rw [← Hn.out]; exact Nat.le_refl _), List.take_of_length_le (by rw [← Hm.out]; exact Nat.le_refl _)] at h
          exact h
        go_wp2
        go_ret
        exact ⟨true, rfl, ⟨fun _ => HE.out, fun _ => rfl⟩, hup⟩
  · have hq : ((n : Int) != (m : Int)) = true := by rw [bne_iff_ne]; omega
    have HE : Hid (l ≠ l') := fun e => hnm (by rw [Hn.out, Hm.out, e])
    go_enter Try.func22, Try.ntmps22
    go_wp2
    go_ret
    exact ⟨false, rfl, ⟨fun h => (by cases h), fun h => absurd h HE.out⟩, Up.refl w⟩
set_option maxRecDepth 1000000 in
set_option maxHeartbeats 4000000 in
theorem eqints_any (A B : Option Addr) (n m c c' : Nat) (l l' : List Int) (w : World) (hA : Vals w A (is l)) (hB : Vals w B (is l')) (Hn : Hid (n = l.length)) (Hm : Hid (m = l'.length)) (hn : n ≤ 1000000) (hm : m ≤ 1000000) :
    Calls Try.prog 32 #[.slice A n c, .slice B m c'] w fun e w' => ∃ r : Bool, e = .returned (.bool r) ∧ (r = true ↔ l = l') ∧ Up w w' := by
  by_cases hnm : n = m
  · subst hnm
    go_enter Try.func32, Try.ntmps32
    go_wp2
    go_loopw [5] (fun i wr => ∃ k : Nat, k ≤ n ∧ i = .int .i64 k ∧ Up w wr ∧ Hid (l.take k = l'.take k)) (fun i _ => (n - (intOf i).toNat))
    case atStart => exact ⟨0, by omega, rfl, Up.refl w, rfl⟩
    case round =>
      obtain ⟨k, hk, rfl, hup, HT⟩ := hrel
      by_cases hlt : k < n
      · have hk1 : k < l.length := by have := Hn.out; omega
        have hk2 : k < l'.length := by have := Hm.out; omega
        obtain ⟨x, hx⟩ : ∃ x, x = l.getD k 0 := ⟨_, rfl⟩
        obtain ⟨y, hy⟩ : ∃ y, y = l'.getD k 0 := ⟨_, rfl⟩
        have hv1 := is_get hk1
        have hv2 := is_get hk2
        rw [← hx] at hv1
        rw [← hy] at hv2
        obtain ⟨ad, hAd, hb, hcell⟩ := (hA.up hup).at_ hv1
        obtain ⟨bd, hBd, hb2, hcell2⟩ := (hB.up hup).at_ hv2
        subst hAd hBd
        have HX := hide hx
        have HY := hide hy
        clear hv1 hv2 hx hy hA hB
        by_cases hxy : x = y
        · have HE : Hid (l.take (k + 1) = l'.take (k + 1)) := take_next HT.out hk1 hk2 (HX.out.symm.trans (hxy.trans HY.out))
          subst hxy
          have hq : (x != x) = false := by simp
          go_wp2
          go_quiet (fail)
          go_wp2
          go_roundw
          case rel => exact ⟨k + 1, by omega, by go_num, hup.drewN _, HE⟩
          case measure => simp [intOf] <;> omega
        · have hq : (x != y) = true := bne_iff_ne.2 hxy
          have HE : Hid (l ≠ l') := fun e => hxy (by rw [HX.out, HY.out, e])
          clear hxy
          go_wp2
          go_quiet (fail)
          go_wp2
          go_ret
          exact ⟨false, rfl, ⟨fun h => (by cases h), fun h => absurd h HE.out⟩, hup.drewN _⟩
      · obtain rfl : k = n := by omega
        have HE : Hid (l = l') := by
          have h := HT.out
          rw [List.take_of_length_le (by rw [← Hn.out]; exact Nat.le_refl _), List.take_of_length_le (by rw [← Hm.out]; exact Nat.le_refl _)] at h
          exact h
        go_wp2
        go_ret
        exact ⟨true, rfl, ⟨fun _ => HE.out, fun _ => rfl⟩, hup⟩
  · have hq : ((n : Int) != (m : Int)) = true := by rw [bne_iff_ne]; omega
    have HE : Hid (l ≠ l') := fun e => hnm (by rw [Hn.out, Hm.out, e])
    go_enter Try.func32, Try.ntmps32
    go_wp2
    go_ret
    exact ⟨false, rfl, ⟨fun h => (by cases h), fun h => absurd h HE.out⟩, Up.refl w⟩
set_option maxRecDepth 1000000 in
set_option maxHeartbeats 4000000 in
theorem cloneS_any (A : Option Addr) (n c : Nat) (l : List ByteArray) (w : World) (hA : Vals w A (ss l)) (Hn : Hid (n = l.length)) (hz : A = none → n = 0 ∧ c = 0) (hn : n ≤ 900000) :
    Calls Try.prog 19 #[.slice A n c] w (RetCl w n (ss l)) := by
  have hq : ∀ (w : World) (a : Option Addr) (n c n' c' : Nat), (binOp .eql 30 (.slice a n c) (.slice none n' c')).run Try.prog w = .ok (.bool a.isNone) w := fun w a n c n' c' => Lib.run_eql_slice_nil w _ _ a n c n' c' Try.underlying30
  rcases A with _ | ad
  · obtain ⟨rfl, rfl⟩ := hz rfl
    go_enter Try.func19, Try.ntmps19
    go_wp2
    go_ret
    exact ⟨none, 0, rfl, hA, Nat.le_refl _, Up.refl w⟩
  · clear hz
    have hl : (ss l).length = n := by rw [ss_len, ← Hn.out]
    go_enter Try.func19, Try.ntmps19
    go_wp2_with (at_builtin; refine wp_appV rfl _ _ 30 9 rfl w.heap.size (.string ⟨#[]⟩) 16 Try.underlying30 Try.info9 rfl (by decide) _ 0 _ rfl (World.ownsRow_made w #[] 0 (Nat.le_refl _) (Nat.zero_le _) rfl) (some ad) n c (ss l) rfl hl (ss_one _) (hA.up ((Up.refl w).alloc _)) (by omega) (by simp) ?_; intro v1 w1 hown1 hgrow1; obtain ⟨A1, c1, rfl, hc1, hv1, _, _⟩ := own_vals hown1)
    go_ret
    exact ⟨A1, c1, rfl, hv1, by omega, own_growU0 hown1 ((Up.refl w).alloc _) hgrow1 (fun k hk => by simp [Value.ownBlock, Act.eval] at hk; omega)⟩
set_option maxRecDepth 1000000 in
set_option maxHeartbeats 4000000 in
theorem cloneI_any (A : Option Addr) (n c : Nat) (l : List Int) (w : World) (hA : Vals w A (is l)) (Hn : Hid (n = l.length)) (hz : A = none → n = 0 ∧ c = 0) (hn : n ≤ 900000) :
    Calls Try.prog 29 #[.slice A n c] w (RetCl w n (is l)) := by
  have hq : ∀ (w : World) (a : Option Addr) (n c n' c' : Nat), (binOp .eql 41 (.slice a n c) (.slice none n' c')).run Try.prog w = .ok (.bool a.isNone) w := fun w a n c n' c' => Lib.run_eql_slice_nil w _ _ a n c n' c' Try.underlying41
  rcases A with _ | ad
  · obtain ⟨rfl, rfl⟩ := hz rfl
    go_enter Try.func29, Try.ntmps29
    go_wp2
    go_ret
    exact ⟨none, 0, rfl, hA, Nat.le_refl _, Up.refl w⟩
  · clear hz
    have hl : (is l).length = n := by rw [is_len, ← Hn.out]
    go_enter Try.func29, Try.ntmps29
    go_wp2_with (at_builtin; refine wp_appV rfl _ _ 41 3 rfl w.heap.size (.int .i64 0) 8 Try.underlying41 Try.info3 rfl (by decide) _ 0 _ rfl (World.ownsRow_made w #[] 0 (Nat.le_refl _) (Nat.zero_le _) rfl) (some ad) n c (is l) rfl hl (is_one _) (hA.up ((Up.refl w).alloc _)) (by omega) (by simp) ?_; intro v1 w1 hown1 hgrow1; obtain ⟨A1, c1, rfl, hc1, hv1, _, _⟩ := own_vals hown1)
    go_ret
    exact ⟨A1, c1, rfl, hv1, by omega, own_growU0 hown1 ((Up.refl w).alloc _) hgrow1 (fun k hk => by simp [Value.ownBlock, Act.eval] at hk; omega)⟩
end Go.Proofs.Ytcgoogdjgocjbaa
