/- Walks: lists of sets compared, copied, joined; the first of two errors. -/
import Derived.Test.YtfdlmgjjpcdkpaaDoorFy
import Derived.Lib.AppendZeros
namespace Go.Proofs.YtfdlmgjjpcdkpaaDoor
open Go.RowKit

set_option maxRecDepth 100000 in
set_option maxHeartbeats 2000000 in
theorem equal_any (A B : Option Addr) (n c m d : Nat) (f g : List Nat) (w : World) (hA : Vals w A (us f)) (hB : Vals w B (us g)) (Hn : Hid (n = f.length)) (Hm : Hid (m = g.length)) (hn : n ≤ 1000000) (hm : m ≤ 1000000) :
    Calls Tryd.prog 18 #[.slice A n c, .slice B m d] w (RetV w (.bool (decide (f = g)))) := by
  obtain ⟨S, HSS⟩ : ∃ S, Hid (S = decide (f = g)) := ⟨_, rfl⟩
  rw [← HSS.out]
  have HA := hide hA
  have HB := hide hB
  clear hA hB
  by_cases hnm : n = m
  · subst hnm
    have d0 : ((n : Int) != (n : Int)) = false := by simp
    go_enter Tryd.func18, Tryd.ntmps18
    go_wp2
    go_loopw [13] (fun v wr => ∃ k : Nat, v = .int .i64 (k : Int) ∧ k ≤ n ∧ Hid (f.take k = g.take k) ∧ Up w wr) (fun v _ => n - (intOf v).toNat)
    case atStart => exact ⟨0, rfl, by omega, rfl, Up.refl _⟩
    case round =>
      obtain ⟨k, rfl, hk, HK, hup⟩ := hrel
      by_cases hlt : k < n
      · have hk1 : k < f.length := by rw [← Hn.out]; exact hlt
        have hk2 : k < g.length := by rw [← Hm.out]; exact hlt
        obtain ⟨x, Hx⟩ : ∃ x, Hid (x = f[k]'hk1) := ⟨_, rfl⟩
        obtain ⟨y, Hy⟩ : ∃ y, Hid (y = g[k]'hk2) := ⟨_, rfl⟩
        have hv := us_at hk1
        have hu := us_at hk2
        rw [← Hx.out] at hv
        rw [← Hy.out] at hu
        obtain ⟨ad, hAd, hb, hcell⟩ := (HA.out.up hup).at_ hv
        obtain ⟨be, hBe, hb2, hcell2⟩ := (HB.out.up hup).at_ hu
        subst hAd
        subst hBe
        have hlt' : decide (k < n) = true := decide_eq_true hlt
        clear hv hu
        by_cases hxy : x = y
        · have q : ((x : Int) != (y : Int)) = false := by rw [bne_eq_false_iff_eq]; omega
          have HK2 : Hid (f.take (k + 1) = g.take (k + 1)) := by
            show _ = _
            rw [List.take_add_one, List.take_add_one, HK.out, List.getElem?_eq_getElem hk1, List.getElem?_eq_getElem hk2, ← Hx.out, ← Hy.out, hxy]
          clear hxy
          go_wp2
          go_quiet (fail)
          go_wp2
          go_roundw
          case rel => exact ⟨k + 1, by go_num, by omega, HK2.out, hup.drewN _⟩
          case measure => simp [intOf]; omega
        · have q : ((x : Int) != (y : Int)) = true := by rw [bne_iff_ne]; omega
          have HS2 : Hid (S = false) := by
            show S = false
            rw [HSS.out, decide_eq_false]
            intro e
            subst e
            exact hxy (by rw [Hx.out, Hy.out])
          clear hxy
          go_wp2
          go_quiet (fail)
          go_wp2
          go_ret
          exact ⟨by rw [HS2.out]; rfl, hup.drewN _⟩
      · have HS2 : Hid (S = true) := by
          show S = true
          have h1 := HK.out
          rw [List.take_of_length_le (by rw [← Hn.out]; omega), List.take_of_length_le (by rw [← Hm.out]; omega)] at h1
          rw [HSS.out, decide_eq_true h1]
        have hge : decide (k < n) = false := decide_eq_false hlt
        go_wp2
        go_ret
        exact ⟨by rw [HS2.out]; rfl, hup⟩
  · have d0 : ((n : Int) != (m : Int)) = true := by rw [bne_iff_ne]; omega
    have HS2 : Hid (S = false) := by
      show S = false
      rw [HSS.out, decide_eq_false]
      intro e
      exact hnm (by rw [Hn.out, Hm.out, e])
    clear hnm
    go_enter Tryd.func18, Tryd.ntmps18
    go_wp2
    go_ret
    exact ⟨by rw [HS2.out]; rfl, Up.refl _⟩
/-- What returns a copy. -/
def RetCl (w : World) (n : Nat) (l : List Value) (e : Ending) (w' : World) : Prop := ∃ A c, e = .returned (.slice A n c) ∧ n ≤ c ∧ Vals w' A l ∧ Up w w'
set_option maxRecDepth 100000 in
set_option maxHeartbeats 2000000 in
/-- A copy of a list that came in. -/
theorem clone_any (A : Option Addr) (n c : Nat) (l : List Nat) (w : World) (hA : Vals w A (us l)) (Hn : Hid (n = l.length)) (hz : A = none → n = 0 ∧ c = 0) (hn : n ≤ 900000) :
    Calls Tryd.prog 12 #[.slice A n c] w (RetCl w n (us l)) := by
  have hq : ∀ (w : World) (a : Option Addr) (n c n' c' : Nat), (binOp .eql 22 (.slice a n c) (.slice none n' c')).run Tryd.prog w = .ok (.bool a.isNone) w := fun w a n c n' c' => Lib.run_eql_slice_nil w _ _ a n c n' c' Tryd.underlying22
  rcases A with _ | ad
  · obtain ⟨rfl, rfl⟩ := hz rfl
    go_enter Tryd.func12, Tryd.ntmps12
    go_wp2
    go_ret
    exact ⟨none, 0, rfl, Nat.le_refl _, hA, Up.refl w⟩
  · clear hz
    have hl : (us l).length = n := by rw [us_len, ← Hn.out]
    go_enter Tryd.func12, Tryd.ntmps12
    go_wp2_with (at_builtin; refine wp_appV rfl _ _ 22 28 rfl w.heap.size (.int .u16 0) 2 Tryd.underlying22 Tryd.info28 rfl (by decide) _ 0 _ rfl (World.ownsRow_made w #[] 0 (Nat.le_refl _) (Nat.zero_le _) rfl) (some ad) n c (us l) rfl hl (us_one _) (hA.up ((Up.refl w).alloc _)) (by omega) (by simp) ?_; intro v1 w1 hown1 hgrow1; obtain ⟨A1, c1, rfl, hc1, hv1, hl1, _⟩ := own_vals hown1)
    go_ret
    exact ⟨A1, c1, rfl, by omega, hv1, ((Up.refl w).alloc _).grown hgrow1 (fun k hk => by simp [Value.ownBlock, Act.eval] at hk; omega)⟩
set_option maxRecDepth 100000 in
set_option maxHeartbeats 2000000 in
theorem ore_any (g c : Nat) (x y : Int) (w : World) (c0 : w.cell? ⟨g, 0, none⟩ = some (.int .i64 x)) (c1 : w.cell? ⟨g, 1, none⟩ = some (.int .i64 y)) : Calls Tryd.prog 52 #[.slice (some ⟨g, 0, none⟩) 2 c] w fun e w' => e = .returned (.int .i64 (if x = 0 then y else x)) ∧ w' = w := by
  obtain ⟨r, Hr⟩ : ∃ r, Hid (r = if x = 0 then y else x) := ⟨_, rfl⟩
  rw [← Hr.out]
  go_enter Tryd.func52, Tryd.ntmps52
  go_wp2
  go_loopw [8] (fun v wr => Hid (wr = w) ∧ ∃ k : Nat, v = .int .i64 (k : Int) ∧ k ≤ 2 ∧ Hid ((1 ≤ k → x = 0) ∧ (2 ≤ k → y = 0))) (fun v _ => 2 - (intOf v).toNat)
  case atStart => exact ⟨rfl, 0, rfl, by omega, ⟨by omega, by omega⟩⟩
  case round =>
    obtain ⟨HW, k, rfl, hk, HX⟩ := hrel
    obtain rfl := HW.out
    have hk3 : k = 0 ∨ k = 1 ∨ k = 2 := by omega
    rcases hk3 with rfl | rfl | rfl
    · by_cases h : x = 0
      · have n0 : (x != 0) = false := by rw [bne_eq_false_iff_eq]; exact h
        have H := hide h
        clear h
        go_wp2
        go_roundw
        case rel => exact ⟨hide trivial, 1, rfl, by omega, ⟨fun _ => H.out, by omega⟩⟩
        case measure => simp [intOf]
      · have ne : (x != 0) = true := by rw [bne_iff_ne]; exact h
        have H := hide h
        clear h
        go_wp2
        go_ret
        exact ⟨by rw [Hr.out, if_neg H.out]; rfl, rfl⟩
    · have Hx := hide (HX.out.1 (by omega))
      by_cases h : y = 0
      · have n0 : (y != 0) = false := by rw [bne_eq_false_iff_eq]; exact h
        have H := hide h
        clear h
        go_wp2
        go_roundw
        case rel => exact ⟨hide trivial, 2, rfl, by omega, ⟨fun _ => Hx.out, fun _ => H.out⟩⟩
        case measure => simp [intOf]
      · have ne : (y != 0) = true := by rw [bne_iff_ne]; exact h
        go_wp2
        go_ret
        exact ⟨by rw [Hr.out, if_pos Hx.out]; rfl, rfl⟩
    · have Hx := hide (HX.out.1 (by omega))
      have Hy := hide (HX.out.2 (by omega))
      go_wp2
      go_ret
      exact ⟨by rw [Hr.out, if_pos Hx.out, Hy.out]; rfl, rfl⟩
set_option maxRecDepth 100000 in
set_option maxHeartbeats 2000000 in
theorem grow_any (k : Nat) (w : World) (hk : k ≤ 900000) : Calls Tryd.prog 70 #[.slice none 0 0, .int .i64 (k : Int)] w fun e w' => ∃ v, e = .returned v ∧ w'.ownsRow w.heap.size 28 1 v 0 (us []) ∧ Up w w' := by
  have d0 : decide ((k : Int) < 0) = false := decide_eq_false (by omega)
  by_cases h0 : k = 0
  · subst h0
    go_enter Tryd.func70, Tryd.ntmps70
    go_wp2
    go_ret
    exact ⟨_, rfl, World.ownsRow_nil _ _ _ _, Up.refl _⟩
  · obtain ⟨i0, hi, hz0, hz1, hz2⟩ := info_parts Tryd.info28
    have d1 : decide (0 < k) = true := decide_eq_true (by omega)
    have hrun := fun (ty : TypeId) => Lib.run_append_nil_zeros (P := Tryd.prog) w 22 3 ty 28 i0 (.int .u16 0) .i64 .i64 Tryd.underlying22 Tryd.underlying3 hi hz0 k (by omega) (by omega) (by omega) (by rw [hz2]; omega)
    have hge := grownCap_ge w k 0 28
    have hle := grownCap_le_maxLen w k 0 28 (by unfold maxLen; omega)
    obtain ⟨cap, hcap⟩ : ∃ cap, grownCap w k 0 28 = cap := ⟨_, rfl⟩
    rw [hcap] at hrun hge hle
    obtain ⟨cs, hcs⟩ : ∃ cs, Builtin.zeroCells (Value.int .u16 0).cells k ++ Builtin.zeroCells (Value.int .u16 0).cells (cap - k) = cs := ⟨_, rfl⟩
    have hcz : cs.size = cap := by rw [← hcs]; simp [size_zeroCells, Value.cells]; omega
    rw [hcs] at hrun
    have HR := hide hrun
    have HC : Hid (cs.size = cap) := hcz
    clear hrun hcap hcs hcz h0
    go_enter Tryd.func70, Tryd.ntmps70
    go_wp2_with (at_builtin; refine Lib.wpList_append_run _ rfl _ _ _ _ rfl _ _ rfl rfl _ _ (HR.out _) ?_)
    go_ret
    refine ⟨_, rfl, ⟨rfl, .inr ⟨w.heap.size, cap, cs, rfl, Nat.le_refl _, World.alloc_heap_new w.drew _, Nat.zero_le _, hle, by rw [HC.out, Nat.mul_one], rfl⟩⟩, (Up.refl w).drew.alloc _⟩
set_option maxRecDepth 100000 in
set_option maxHeartbeats 4000000 in
theorem concat_any (gs n c m d : Nat) (A B : Option Addr) (f g : List Nat) (w : World) (c0 : w.cell? ⟨gs, 0, none⟩ = some (.slice A n c)) (c1 : w.cell? ⟨gs, 1, none⟩ = some (.slice B m d)) (hA : Vals w A (us f)) (hB : Vals w B (us g)) (Hn : Hid (n = f.length)) (Hm : Hid (m = g.length)) (hn : n ≤ 200000) (hm : m ≤ 200000) :
    Calls Tryd.prog 53 #[.slice (some ⟨gs, 0, none⟩) 2 2] w (RetL w (f ++ g)) := by
  have HA := hide hA
  have HB := hide hB
  have C0 := hide c0
  have C1 := hide c1
  clear hA hB
  go_enter Tryd.func53, Tryd.ntmps53
  go_wp2
  go_loop [3, 11] (fun v3 v11 => ∃ k a : Nat, v11 = .int .i64 (k : Int) ∧ k ≤ 2 ∧ v3 = .int .i64 (a : Int) ∧ Hid ((k = 0 → a = 0) ∧ (k = 1 → a = n) ∧ (k = 2 → a = n + m))) (fun _ v11 => 2 - (intOf v11).toNat)
  case atStart => exact ⟨0, 0, rfl, by omega, rfl, ⟨fun _ => rfl, by omega, by omega⟩⟩
  case round =>
    obtain ⟨k, a, rfl, hk, rfl, HK⟩ := hrel
    have hk3 : k = 0 ∨ k = 1 ∨ k = 2 := by omega
    rcases hk3 with rfl | rfl | rfl
    · have ha := HK.out.1 rfl
      subst ha
      have d1 : decide ((n : Int) < 0) = false := decide_eq_false (by omega)
      go_wp2
      go_round
      case rel => exact ⟨1, n, rfl, by omega, by go_num, ⟨by omega, fun _ => rfl, by omega⟩⟩
      case measure => simp [intOf]
    · have ha := HK.out.2.1 rfl
      subst ha
      have d1 : decide ((a : Int) + (m : Int) < 0) = false := decide_eq_false (by omega)
      go_wp2
      go_round
      case rel => exact ⟨2, a + m, rfl, by omega, by go_num, ⟨by omega, by omega, fun _ => rfl⟩⟩
      case measure => simp [intOf]
    · have ha := HK.out.2.2 rfl
      subst ha
      have hgr := grow_any (n + m) w (by omega)
      rw [Int.natCast_add] at hgr
      clear c0 c1
      go_wp2_with fail
      refine hgr.mono ?_
      rintro e w1 ⟨v, rfl, hown0, hu1⟩
      clear hgr HK
      go_wp2
      go_loopw [6, 27] (fun v6 v27 wr => ∃ k : Nat, v27 = .int .i64 (k : Int) ∧ k ≤ 2 ∧ wr.ownsRow w.heap.size 28 1 v6 (if k = 0 then 0 else if k = 1 then n else n + m) (us (if k = 0 then [] else if k = 1 then f else f ++ g)) ∧ Up w wr) (fun _ v27 _ => 2 - (intOf v27).toNat)
      case atStart => exact ⟨0, rfl, by omega, hown0, hu1⟩
      case round =>
        obtain ⟨k, rfl, hk, hown, hup⟩ := hrel
        have hsz := hup.size
        have hk3 : k = 0 ∨ k = 1 ∨ k = 2 := by omega
        rcases hk3 with rfl | rfl | rfl
        · replace hown : wr.ownsRow w.heap.size 28 1 _ 0 (us []) := hown
          have cX := (hup.cell (p := ⟨gs, 0, none⟩) (cell_lt C0.out)).trans C0.out
          have hV2 := HA.out.up hup
          go_wp2_with (at_builtin; refine wp_appV rfl _ _ 22 28 rfl w.heap.size (.int .u16 0) 2 Tryd.underlying22 Tryd.info28 rfl (by decide) _ 0 _ rfl hown A n c (us f) rfl (by rw [us_len, ← Hn.out]) (us_one _) hV2 (by omega) (by omega) ?_; intro v1 w3 hown3 hgrow3)
          go_roundw
          case rel => exact ⟨1, rfl, by omega, by show w3.ownsRow _ _ 1 _ n (us f); rw [Nat.zero_add, ← us_append] at hown3; exact hown3, hup.grown hgrow3 (fun j hj => (hown.lt j hj).1)⟩
          case measure => simp [intOf]
        · replace hown : wr.ownsRow w.heap.size 28 1 _ n (us f) := hown
          have cX := (hup.cell (p := ⟨gs, 1, none⟩) (cell_lt C1.out)).trans C1.out
          have hV2 := HB.out.up hup
          go_wp2_with (at_builtin; refine wp_appV rfl _ _ 22 28 rfl w.heap.size (.int .u16 0) 2 Tryd.underlying22 Tryd.info28 rfl (by decide) _ n _ rfl hown B m d (us g) rfl (by rw [us_len, ← Hm.out]) (us_one _) hV2 (by omega) (by omega) ?_; intro v1 w3 hown3 hgrow3)
          go_roundw
          case rel => exact ⟨2, rfl, by omega, by show w3.ownsRow _ _ 1 _ (n + m) (us (f ++ g)); rw [← us_append] at hown3; exact hown3, hup.grown hgrow3 (fun j hj => (hown.lt j hj).1)⟩
          case measure => simp [intOf]
        · replace hown : wr.ownsRow w.heap.size 28 1 _ (n + m) (us (f ++ g)) := hown
          have hlen := own_len hown
          rw [← hlen] at hown
          have HO := hide hown
          clear hown
          go_wp2
          go_ret
          exact ⟨_, rfl, HO.out, hup⟩
end Go.Proofs.YtfdlmgjjpcdkpaaDoor
