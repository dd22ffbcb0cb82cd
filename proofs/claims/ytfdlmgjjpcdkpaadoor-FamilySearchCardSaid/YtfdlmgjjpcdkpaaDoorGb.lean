/- Walks: the reference on what one of two families accepts, and on what both accept. -/
import Derived.Test.YtfdlmgjjpcdkpaaDoorGa
namespace Go.Proofs.YtfdlmgjjpcdkpaaDoor
open Go.RowKit

set_option maxRecDepth 100000 in
set_option maxHeartbeats 2000000 in
theorem rboth_any (A B : Option Addr) (n c m d : Nat) (f g : List Nat) (w : World) (hA : Vals w A (us f)) (hB : Vals w B (us g)) (Hn : Hid (n = f.length)) (Hm : Hid (m = g.length)) (HF : Hid (Small16 f)) (HG : Hid (Small16 g)) (hn : n ≤ 1000000) (hm : m ≤ 1000000) : Calls Tryd.prog 54 #[.slice A n c, .slice B m d] w (RetV w (.int .i64 (errE f g))) := by
  have hvf := rvalid_any A n c f w hA Hn HF hn
  have hvg := fun w hB => rvalid_any B m d g w hB Hm HG hm
  have HB := hide hB
  clear hA hB
  obtain ⟨er, Her⟩ : ∃ er, Hid (er = errE f g) := ⟨_, rfl⟩
  have HER : Hid (∀ x y, valE f = x → valE g = y → er = if x = 0 then y else x) := by
    intro x y hx hy
    rw [Her.out, ← hx, ← hy]
    rfl
  rw [← Her.out]
  obtain ⟨x, hx⟩ : ∃ x, valE f = x := ⟨_, rfl⟩
  obtain ⟨y, hy⟩ : ∃ y, valE g = y := ⟨_, rfl⟩
  replace HER := hide (HER.out x y hx hy)
  rw [hx] at hvf
  rw [hy] at hvg
  clear hx hy
  go_enter Tryd.func54, Tryd.ntmps54
  go_wp2_with fail
  refine hvf.mono ?_
  rintro e w1 ⟨rfl, hu1⟩
  clear hvf
  by_cases hx0 : x = 0
  · have q0 : (x != 0) = false := by rw [bne_eq_false_iff_eq]; exact hx0
    have H2 : Hid (er = y) := by show er = y; rw [HER.out, if_pos hx0]
    clear hx0
    go_wp2_with fail
    refine (hvg w1 (HB.out.up hu1)).mono ?_
    rintro e w2 ⟨rfl, hu2⟩
    clear hvg
    go_wp2
    go_ret
    exact ⟨by rw [H2.out]; rfl, hu1.trans hu2⟩
  · have q0 : (x != 0) = true := by rw [bne_iff_ne]; exact hx0
    have H2 : Hid (er = x) := by show er = x; rw [HER.out, if_neg hx0]
    clear hx0 hvg
    go_wp2
    go_ret
    exact ⟨by rw [H2.out]; rfl, hu1⟩
set_option maxRecDepth 100000 in
set_option maxHeartbeats 4000000 in
theorem rproducts_any (A B : Option Addr) (n c m d : Nat) (f g : List Nat) (w : World) (hA : Vals w A (us f)) (hB : Vals w B (us g)) (Hn : Hid (n = f.length)) (Hm : Hid (m = g.length)) (HF : Hid (Small16 f)) (HG : Hid (Small16 g)) (hn : n ≤ 400) (hm : m ≤ 400) : Calls Tryd.prog 55 #[.slice A n c, .slice B m d] w (RetL w (prd f g)) := by
  have HA := hide hA
  have HB := hide hB
  clear hA hB
  obtain ⟨P, HP⟩ : ∃ P, Hid (P = prd f g) := ⟨_, rfl⟩
  rw [← HP.out]
  go_enter Tryd.func55, Tryd.ntmps55
  go_wp2
  go_loopw [5, 6] (fun v7 v23 wr => ∃ (k q : Nat) (ls : List Nat), v23 = .int .i64 (k : Int) ∧ k ≤ n ∧ q ≤ 400 * k ∧ wr.ownsRow w.heap.size 28 1 v7 q (us ls) ∧ Hid (ls = prd (f.take k) g) ∧ Up w wr) (fun _ v23 _ => n - (intOf v23).toNat)
  case atStart => exact ⟨0, 0, [], rfl, by omega, by omega, World.ownsRow_nil _ _ _ _, rfl, Up.refl _⟩
  case round =>
    obtain ⟨k, q, ls, rfl, hk, hq, hown, HL, hup⟩ := hrel
    by_cases hlt : k < n
    · have hk1 : k < f.length := by rw [← Hn.out]; exact hlt
      obtain ⟨x, Hx⟩ : ∃ x, Hid (x = f[k]'hk1) := ⟨_, rfl⟩
      have hx16 : x < 65536 := by rw [Hx.out]; exact HF.out _ (List.getElem_mem hk1)
      have hvx := us_at hk1
      rw [← Hx.out] at hvx
      have HT : Hid (prd (f.take (k + 1)) g = ls ++ g.map fun b => x ||| b) := by show _ = _; rw [take_snoc hk1, prd_snoc, ← Hx.out, HL.out]
      have hlt' : decide (k < n) = true := decide_eq_true hlt
      go_wp2
      go_loopw [5, 7] (fun v7 v29 wr => ∃ (j q2 : Nat) (ls2 : List Nat), v29 = .int .i64 (j : Int) ∧ j ≤ m ∧ q2 ≤ 400 * k + j ∧ wr.ownsRow w.heap.size 28 1 v7 q2 (us ls2) ∧ Hid (ls2 = ls ++ (g.take j).map fun b => x ||| b) ∧ Up w wr) (fun _ v29 _ => m - (intOf v29).toNat)
      case atStart => exact ⟨0, q, ls, rfl, by omega, by omega, hown, by show _ = _; simp, hup⟩
      case round =>
        obtain ⟨j, q2, ls2, rfl, hj, hq2, hown2, HL2, hup2⟩ := hrel
        have hsz2 := hup2.size
        by_cases hjm : j < m
        · have hj1 : j < g.length := by rw [← Hm.out]; exact hjm
          obtain ⟨y, Hy⟩ : ∃ y, Hid (y = g[j]'hj1) := ⟨_, rfl⟩
          have hy16 : y < 65536 := by rw [Hy.out]; exact HG.out _ (List.getElem_mem hj1)
          have hv := us_at hj1
          rw [← Hy.out] at hv
          obtain ⟨ad, hAd, hb, hcell⟩ := (HA.out.up hup2).at_ hvx
          obtain ⟨be, hBe, hb2, hcell2⟩ := (HB.out.up hup2).at_ hv
          subst hAd
          subst hBe
          have hor := or16 hx16 hy16
          have HL3 : Hid (ls2 ++ [x ||| y] = ls ++ (g.take (j + 1)).map fun b => x ||| b) := by show _ = _; rw [take_snoc hj1, List.map_append, ← Hy.out, HL2.out, List.append_assoc]; rfl
          obtain ⟨z, hz⟩ : ∃ z, x ||| y = z := ⟨_, rfl⟩
          rw [hz] at hor HL3
          have hjm' : decide (j < m) = true := decide_eq_true hjm
          have hown2d := own_up hown2 ((Up.refl wr).drew)
          clear hv hz
          go_wp2
          go_region_law (refine step_appV rfl _ _ 22 28 rfl w.heap.size (.int .u16 0) 2 Tryd.underlying22 Tryd.info28 rfl (by decide) _ q2 _ rfl (hown2d.alloc _) (some ⟨wr.heap.size, 0, none⟩) 1 1 (us [z]) rfl rfl (us_one _) (vals_one wr.drew _ _) (by omega) (by simp; omega) ?_; intro v1 w3 hown3 hgrow3)
          all_goals
            go_wp2
            go_roundw
            case rel => exact ⟨j + 1, q2 + 1, ls2 ++ [z], by go_num, by omega, by omega, by rw [us_append]; exact hown3, HL3.out, up_append hup2.drew hown2d hgrow3⟩
            case measure => simp [intOf]; omega
        · have HE : Hid (ls2 = prd (f.take (k + 1)) g) := by show _ = _; rw [HT.out, HL2.out, List.take_of_length_le (by rw [← Hm.out]; omega)]
          have hge : decide (j < m) = false := decide_eq_false hjm
          go_wp2
          go_roundw
          case rel => exact ⟨k + 1, q2, ls2, by go_num, by omega, by omega, hown2, HE.out, hup2⟩
          case measure => simp [intOf]; omega
    · have HE : Hid (P = ls) := by show P = ls; rw [HP.out, HL.out, List.take_of_length_le (by rw [← Hn.out]; omega)]
      have hge : decide (k < n) = false := decide_eq_false hlt
      have hlen := own_len hown
      rw [← hlen] at hown
      have HO := hide hown
      clear hown hlen
      go_wp2
      go_ret
      exact ⟨_, rfl, by rw [HE.out]; exact HO.out, hup⟩
set_option maxRecDepth 100000 in
set_option maxHeartbeats 4000000 in
theorem rand_fam (A B : Option Addr) (n c m d : Nat) (f g : List Nat) (w : World) (hA : Vals w A (us f)) (hB : Vals w B (us g)) (Hn : Hid (n = f.length)) (Hm : Hid (m = g.length)) (HF : Hid (Small16 f)) (HG : Hid (Small16 g)) (hn : n ≤ 1000000) (hm : m ≤ 1000000) : Calls Tryd.prog 28 #[.slice A n c, .slice B m d] w (RetP w (andE f g)) := by
  have HA := hide hA
  have HB := hide hB
  have hboth := rboth_any A B n c m d f g w hA hB Hn Hm HF HG hn hm
  clear hA hB
  obtain ⟨P, HP⟩ : ∃ P : List Nat × Int, Hid (P = andE f g) := ⟨_, rfl⟩
  rw [← HP.out]
  obtain ⟨er, Her⟩ : ∃ er, Hid (er = errE f g) := ⟨_, rfl⟩
  rw [← Her.out] at hboth
  go_enter Tryd.func28, Tryd.ntmps28
  go_wp2_with fail
  refine hboth.mono ?_
  rintro e w3 ⟨rfl, hup3⟩
  clear hboth
  by_cases he : er = 0
  · have q0 : (er != 0) = false := by rw [bne_eq_false_iff_eq]; exact he
    have hok : errE f g = 0 := by rw [← Her.out]; exact he
    have HP2 : Hid (P = minE (prd f g)) := by show P = _; rw [HP.out, andE_ok hok]
    have hn4 : n ≤ 400 := by rw [Hn.out]; exact val_len (errE_ok hok).1
    have hm4 : m ≤ 400 := by rw [Hm.out]; exact val_len (errE_ok hok).2
    clear he hok
    have hprd := rproducts_any A B n c m d f g w3 (HA.out.up hup3) (HB.out.up hup3) Hn Hm HF HG hn4 hm4
    have HLQ : Hid ((prd f g).length ≤ 160000) := by
      show _ ≤ _
      have : (prd f g).length = f.length * g.length := by
        unfold prd
        rw [List.length_flatMap]
        simp
        rw [List.map_const', List.sum_replicate_nat]
      rw [this, ← Hn.out, ← Hm.out]
      exact Nat.mul_le_mul hn4 hm4
    unfold RetL at hprd
    obtain ⟨q, Hq⟩ : ∃ q, Hid (q = (prd f g).length) := ⟨_, rfl⟩
    rw [← Hq.out] at hprd HLQ
    have hq := HLQ.out
    go_wp2_with fail
    refine hprd.mono ?_
    rintro e w4 ⟨v, rfl, hown, hu4⟩
    have hup4 := hup3.trans hu4
    obtain ⟨A4, c4, rfl, hc4, hV4, _, _⟩ := own_vals hown
    have hmin := rminimal_any A4 q c4 (prd f g) w4 hV4 Hq (prd_small HF.out HG.out) (by omega)
    rw [← HP2.out] at hmin
    clear hprd
    have HU := hide hup4
    clear hown hV4 hu4 hup4
    go_wp2_with fail
    refine hmin.mono ?_
    rintro e w5 h5
    obtain ⟨v5, rfl, hown5, hu5⟩ := h5
    have HO := hide (own_mono hown5 HU.out.size)
    have HU5 := hide (HU.out.trans hu5)
    clear hmin hown5 hu5
    go_wp2
    go_ret2
    exact ⟨_, rfl, HO.out, HU5.out⟩
  · have q0 : (er != 0) = true := by rw [bne_iff_ne]; exact he
    have HP2 : Hid (P = ([], er)) := by show P = _; rw [HP.out, Her.out]; exact andE_bad (by rw [← Her.out]; exact he)
    clear he
    go_wp2
    go_ret2
    exact ⟨.slice none 0 0, by rw [HP2.out]; rfl, by rw [HP2.out]; exact World.ownsRow_nil _ _ _ _, hup3⟩
set_option maxRecDepth 100000 in
set_option maxHeartbeats 4000000 in
theorem ror_fam (A B : Option Addr) (n c m d : Nat) (f g : List Nat) (w : World) (hA : Vals w A (us f)) (hB : Vals w B (us g)) (Hn : Hid (n = f.length)) (Hm : Hid (m = g.length)) (HF : Hid (Small16 f)) (HG : Hid (Small16 g)) (hn : n ≤ 1000000) (hm : m ≤ 1000000) : Calls Tryd.prog 26 #[.slice A n c, .slice B m d] w (RetP w (orE f g)) := by
  have HA := hide hA
  have HB := hide hB
  have hboth := rboth_any A B n c m d f g w hA hB Hn Hm HF HG hn hm
  clear hA hB
  obtain ⟨P, HP⟩ : ∃ P : List Nat × Int, Hid (P = orE f g) := ⟨_, rfl⟩
  rw [← HP.out]
  obtain ⟨er, Her⟩ : ∃ er, Hid (er = errE f g) := ⟨_, rfl⟩
  rw [← Her.out] at hboth
  go_enter Tryd.func26, Tryd.ntmps26
  go_wp2_with fail
  refine hboth.mono ?_
  rintro e w3 ⟨rfl, hup3⟩
  clear hboth
  by_cases he : er = 0
  · have q0 : (er != 0) = false := by rw [bne_eq_false_iff_eq]; exact he
    have hok : errE f g = 0 := by rw [← Her.out]; exact he
    have HP2 : Hid (P = minE (f ++ g)) := by show P = _; rw [HP.out, orE_ok hok]
    have hn4 : n ≤ 400 := by rw [Hn.out]; exact val_len (errE_ok hok).1
    have hm4 : m ≤ 400 := by rw [Hm.out]; exact val_len (errE_ok hok).2
    clear he hok
    have hsz3 := hup3.size
    go_wp2_with (first
      | (at_builtin; refine wp_appV rfl _ _ 22 28 rfl w.heap.size (.int .u16 0) 2 Tryd.underlying22 Tryd.info28 rfl (by decide) _ 0 _ rfl (World.ownsRow_made w3 #[] 0 hsz3 (Nat.zero_le _) rfl) A n c (us f) rfl (by rw [us_len, ← Hn.out]) (us_one _) (HA.out.up (hup3.alloc _)) (by omega) (by simp; omega) ?_; intro v1 w4a hown4a hgrow4a; have hu4a : Up w w4a := (hup3.alloc _).grown hgrow4a (fun k hk => by simp [Value.ownBlock, Act.eval] at hk; omega); have hsz4a := hu4a.size; have hown4b : w4a.ownsRow w.heap.size 28 1 v1 n (us f) := by have h9 := hown4a; rw [Nat.zero_add] at h9; exact h9)
      | (at_builtin; refine wp_appV rfl _ _ 22 28 rfl w.heap.size (.int .u16 0) 2 Tryd.underlying22 Tryd.info28 rfl (by decide) _ n _ rfl hown4b B m d (us g) rfl (by rw [us_len, ← Hm.out]) (us_one _) (HB.out.up hu4a) (by omega) (by omega) ?_; intro v2 w4 hown hgrow4; rw [← us_append] at hown; have hup4 : Up w w4 := hu4a.grown hgrow4 (fun k hk => (hown4b.lt k hk).1); obtain ⟨A4, c4, rfl, hc4, hV4, _, _⟩ := own_vals hown))
    have hmin := rminimal_any A4 (n + m) c4 (f ++ g) w4 hV4 (by show _ = _; rw [List.length_append, ← Hn.out, ← Hm.out]) (small_app HF.out HG.out) (by omega)
    rw [← HP2.out] at hmin
    have hu4 := hu4a
    have HU := hide hup4
    clear hown hV4 hu4 hup4
    go_wp2_with fail
    refine hmin.mono ?_
    rintro e w5 h5
    obtain ⟨v5, rfl, hown5, hu5⟩ := h5
    have HO := hide (own_mono hown5 HU.out.size)
    have HU5 := hide (HU.out.trans hu5)
    clear hmin hown5 hu5
    go_wp2
    go_ret2
    exact ⟨_, rfl, HO.out, HU5.out⟩
  · have q0 : (er != 0) = true := by rw [bne_iff_ne]; exact he
    have HP2 : Hid (P = ([], er)) := by show P = _; rw [HP.out, Her.out]; exact orE_bad (by rw [← Her.out]; exact he)
    clear he
    go_wp2
    go_ret2
    exact ⟨.slice none 0 0, by rw [HP2.out]; rfl, by rw [HP2.out]; exact World.ownsRow_nil _ _ _ _, hup3⟩
end Go.Proofs.YtfdlmgjjpcdkpaaDoor
