/- Walks: what one of two families accepts, what both accept, what is needed beside given servers, what is left of a family. -/
import Derived.Test.YtfdlmgjjpcdkpaaDoorFz
import Derived.Deep.RegionLaw
namespace Go.Proofs.YtfdlmgjjpcdkpaaDoor
open Go.RowKit

theorem RetP.later {w w1 : World} {p : List Nat × Int} {e : Ending} {w' : World} (hu : Up w w1) (h : RetP w1 p e w') : RetP w p e w' := by
  obtain ⟨v, he, ho, hu2⟩ := h
  exact ⟨v, he, own_mono ho hu.size, hu.trans hu2⟩
/-- append of values, as one step of a region that draws its order. -/
theorem step_appV {w : World} {ops : Array Oper} {o : Oper} {a : Act} {K : Act → World → Prop} {Q : Exit → Act → World → Prop} {E : Prop} (hgd : o.guard = none) (s x : Operand) (ts te : TypeId)
    (ho : o.op = .call { callee := .builtin .append, args := #[s, x], argTypes := #[ts, ts] })
    (base : Nat) (z : Value) (bytes : Nat) (hu : Tryd.prog.underlying ts = some (.slice te)) (hinfo : (Tryd.prog.info? te).map (fun i => (i.zero, i.size, i.bytes)) = some (some z, 1, bytes)) (hzc : z.cells.size = 1) (hby : bytes ≤ 16)
    (v : Value) (n : Nat) (xs : List Value) (hs : a.eval s = v) (hown : w.ownsRow base te 1 v n xs) (A : Option Addr) (m c : Nat) (l : List Value) (hx : a.eval x = .slice A m c) (hl : l.length = m) (h1 : ∀ u ∈ l, u.oneCell' = true) (hA : Vals w A l) (hb : n + m ≤ 1000000) (hbase : base ≤ w.heap.size)
    (h : ∀ v' w', w'.ownsRow base te 1 v' (n + m) (xs ++ l) → w.grownBy w' v.ownBlock → K (a.put o.dst v') w') : if Region.wanted o (yielded ops a.tmps) = true then Oper.wp Tryd.prog o a w K Q else E := by
  have hw : Region.wanted o (yielded ops a.tmps) = true := by simp [Region.wanted, hgd]
  rw [if_pos hw]
  obtain ⟨v', w', hr, h2, h3⟩ := run_appV w base ts te o.type z bytes hu hinfo hzc hby v n xs hown A m c l hl h1 hA hb hbase
  unfold Oper.wp execOp
  simp only [ho, resolve, invoke, builtin, Sem.run_bind, Sem.run_pure, Result.andThen_ok, List.map_toArray, List.map_cons, List.map_nil, hs, hx, hr]
  exact h v' w' h2 h3
/-- The first error of two families. -/
def errE (f g : List Nat) : Int := if valE f = 0 then valE g else valE f
theorem orE_bad {f g : List Nat} (h : errE f g ≠ 0) : orE f g = ([], errE f g) := by
  unfold errE at h ⊢
  unfold orE
  by_cases h1 : valE f = 0
  · rw [if_pos h1] at h ⊢
    rw [if_neg (by simp [h1]), if_pos h]
  · rw [if_neg h1]
    rw [if_pos h1]
theorem andE_bad {f g : List Nat} (h : errE f g ≠ 0) : andE f g = ([], errE f g) := by
  unfold errE at h ⊢
  unfold andE
  by_cases h1 : valE f = 0
  · rw [if_pos h1] at h ⊢
    rw [if_neg (by simp [h1]), if_pos h]
  · rw [if_neg h1]
    rw [if_pos h1]
theorem errE_ok {f g : List Nat} (h : errE f g = 0) : valE f = 0 ∧ valE g = 0 := by
  unfold errE at h
  by_cases h1 : valE f = 0
  · rw [if_pos h1] at h; exact ⟨h1, h⟩
  · rw [if_neg h1] at h; exact absurd h h1
theorem orE_ok {f g : List Nat} (h : errE f g = 0) : orE f g = minE (f ++ g) := by
  obtain ⟨h1, h2⟩ := errE_ok h
  unfold orE
  rw [if_neg (by simp [h1]), if_neg (by simp [h2])]
theorem andE_ok {f g : List Nat} (h : errE f g = 0) : andE f g = minE (prd f g) := by
  obtain ⟨h1, h2⟩ := errE_ok h
  unfold andE
  rw [if_neg (by simp [h1]), if_neg (by simp [h2])]
theorem val_len {f : List Nat} (h : valE f = 0) : f.length ≤ 400 := ((valE_iff f).1 h).len
theorem small_app {f g : List Nat} (hf : Small16 f) (hg : Small16 g) : Small16 (f ++ g) := by
  intro x hx
  rcases List.mem_append.1 hx with h | h
  · exact hf x h
  · exact hg x h
theorem prd_snoc (f g : List Nat) (x : Nat) : prd (f ++ [x]) g = prd f g ++ g.map fun b => x ||| b := by
  unfold prd
  rw [List.flatMap_append]
  simp
theorem prd_small {f g : List Nat} (hf : Small16 f) (hg : Small16 g) : Small16 (prd f g) := prd_lt (n := 16) hf hg
theorem take_snoc {l : List Nat} {k : Nat} (h : k < l.length) : l.take (k + 1) = l.take k ++ [l[k]'h] := by rw [List.take_add_one, List.getElem?_eq_getElem h]; rfl
set_option maxRecDepth 100000 in
set_option maxHeartbeats 4000000 in
theorem or_fam (A B : Option Addr) (n c m d : Nat) (f g : List Nat) (w : World) (hA : Vals w A (us f)) (hB : Vals w B (us g)) (Hn : Hid (n = f.length)) (Hm : Hid (m = g.length)) (HF : Hid (Small16 f)) (HG : Hid (Small16 g)) (hn : n ≤ 1000000) (hm : m ≤ 1000000) (hnc : n ≤ c) (hmd : m ≤ d) : Calls Tryd.prog 25 #[.slice A n c, .slice B m d] w (RetP w (orE f g)) := by
  have HA := hide hA
  have HB := hide hB
  have hvf := fun w hA => valid_any A n c f w hA Hn HF hn hnc
  have hvg := fun w hB => valid_any B m d g w hB Hm HG hm hmd
  clear hA hB
  obtain ⟨P, HP⟩ : ∃ P : List Nat × Int, Hid (P = orE f g) := ⟨_, rfl⟩
  rw [← HP.out]
  obtain ⟨er, Her⟩ : ∃ er, Hid (er = errE f g) := ⟨_, rfl⟩
  have HER : Hid (∀ x y, valE f = x → valE g = y → er = if x = 0 then y else x) := by
    intro x y hx hy
    rw [Her.out, ← hx, ← hy]
    rfl
  obtain ⟨x, hx⟩ : ∃ x, valE f = x := ⟨_, rfl⟩
  obtain ⟨y, hy⟩ : ∃ y, valE g = y := ⟨_, rfl⟩
  replace HER := hide (HER.out x y hx hy)
  rw [hx] at hvf
  rw [hy] at hvg
  clear hx hy
  go_enter Tryd.func25, Tryd.ntmps25
  go_wp2_with fail
  refine (hvf w HA.out).mono ?_
  rintro e w1 ⟨rfl, hu1⟩
  go_wp2_with fail
  refine (hvg w1 (HB.out.up hu1)).mono ?_
  rintro e w2 ⟨rfl, hu2⟩
  have hup2 := hu1.trans hu2
  clear hvf hvg hu1 hu2
  go_wp2_with fail
  refine (ore_any _ _ x y _ ?_ ?_).mono ?_
  · unfold World.cell?; rw [heap_alloc_new]; rfl
  · unfold World.cell?; rw [heap_alloc_new]; rfl
  rw [← HER.out]
  rintro e w3 ⟨rfl, hw3⟩
  have hup3 : Up w w3 := by rw [hw3]; exact hup2.alloc _
  clear hw3 hup2
  by_cases he : er = 0
  · have q0 : (er != 0) = false := by rw [bne_eq_false_iff_eq]; exact he
    have hok : errE f g = 0 := by rw [← Her.out]; exact he
    have HP2 : Hid (P = minE (f ++ g)) := by show P = _; rw [HP.out, orE_ok hok]
    have HN4 : Hid (n ≤ 400 ∧ m ≤ 400) := by
      have h1 := val_len (errE_ok hok).1
      have h2 := val_len (errE_ok hok).2
      rw [← Hn.out] at h1
      rw [← Hm.out] at h2
      exact ⟨h1, h2⟩
    obtain ⟨hn4, hm4⟩ := HN4.out
    clear he hok
    have hcat := concat_any w3.heap.size n c m d A B f g (w3.alloc (.cells #[.slice A n c, .slice B m d] 22)) (by unfold World.cell?; rw [heap_alloc_new]; rfl) (by unfold World.cell?; rw [heap_alloc_new]; rfl) (HA.out.up (hup3.alloc _)) (HB.out.up (hup3.alloc _)) Hn Hm (by omega) (by omega)
    go_wp2_with fail
    refine hcat.mono ?_
    rintro e w4 ⟨v, rfl, hown, hu4⟩
    have hup4 := (hup3.alloc _).trans hu4
    have hlen : (f ++ g).length = n + m := by rw [List.length_append, ← Hn.out, ← Hm.out]
    rw [hlen] at hown
    obtain ⟨A4, c4, rfl, hc4, hV4, _, _⟩ := own_vals hown
    have hmin := minimal_any A4 (n + m) c4 (f ++ g) w4 hV4 hlen.symm (small_app HF.out HG.out) (by omega)
    rw [← HP2.out] at hmin
    have HU := hide hup4
    clear hcat hown hV4 hlen hu4 hup4
    go_wp2_with fail
    refine hmin.mono ?_
    rintro e w5 h5
    obtain ⟨v5, rfl, hown5, hu5⟩ := h5
    have HO := hide (own_mono hown5 HU.out.size)
    have HU5 := hide (HU.out.trans hu5)
    clear hmin hown5 hu5
    go_wp2
    go_ret2
    exact ⟨_, rfl, HO.out, HU5.out⟩
  · have q0 : (er != 0) = true := by rw [bne_iff_ne]; exact he
    have HP2 : Hid (P = ([], er)) := by show P = _; rw [HP.out, Her.out]; exact orE_bad (by rw [← Her.out]; exact he)
    clear he
    go_wp2
    go_ret2
    exact ⟨.slice none 0 0, by rw [HP2.out]; rfl, by rw [HP2.out]; exact World.ownsRow_nil _ _ _ _, hup3⟩
set_option maxRecDepth 100000 in
set_option maxHeartbeats 4000000 in
theorem and_fam (A B : Option Addr) (n c m d : Nat) (f g : List Nat) (w : World) (hA : Vals w A (us f)) (hB : Vals w B (us g)) (Hn : Hid (n = f.length)) (Hm : Hid (m = g.length)) (HF : Hid (Small16 f)) (HG : Hid (Small16 g)) (hn : n ≤ 1000000) (hm : m ≤ 1000000) (hnc : n ≤ c) (hmd : m ≤ d) : Calls Tryd.prog 27 #[.slice A n c, .slice B m d] w (RetP w (andE f g)) := by
  have HA := hide hA
  have HB := hide hB
  have hvf := fun w hA => valid_any A n c f w hA Hn HF hn hnc
  have hvg := fun w hB => valid_any B m d g w hB Hm HG hm hmd
  clear hA hB
  obtain ⟨P, HP⟩ : ∃ P : List Nat × Int, Hid (P = andE f g) := ⟨_, rfl⟩
  rw [← HP.out]
  obtain ⟨er, Her⟩ : ∃ er, Hid (er = errE f g) := ⟨_, rfl⟩
  have HER : Hid (∀ x y, valE f = x → valE g = y → er = if x = 0 then y else x) := by
    intro x y hx hy
    rw [Her.out, ← hx, ← hy]
    rfl
  obtain ⟨x, hx⟩ : ∃ x, valE f = x := ⟨_, rfl⟩
  obtain ⟨y, hy⟩ : ∃ y, valE g = y := ⟨_, rfl⟩
  replace HER := hide (HER.out x y hx hy)
  rw [hx] at hvf
  rw [hy] at hvg
  clear hx hy
  go_enter Tryd.func27, Tryd.ntmps27
  go_wp2_with fail
  refine (hvf w HA.out).mono ?_
  rintro e w1 ⟨rfl, hu1⟩
  go_wp2_with fail
  refine (hvg w1 (HB.out.up hu1)).mono ?_
  rintro e w2 ⟨rfl, hu2⟩
  have hup2 := hu1.trans hu2
  clear hvf hvg hu1 hu2
  go_wp2_with fail
  refine (ore_any _ _ x y _ ?_ ?_).mono ?_
  · unfold World.cell?; rw [heap_alloc_new]; rfl
  · unfold World.cell?; rw [heap_alloc_new]; rfl
  rw [← HER.out]
  rintro e w3 ⟨rfl, hw3⟩
  have hup3 : Up w w3 := by rw [hw3]; exact hup2.alloc _
  clear hw3 hup2
  by_cases he : er = 0
  · have q0 : (er != 0) = false := by rw [bne_eq_false_iff_eq]; exact he
    have hok : errE f g = 0 := by rw [← Her.out]; exact he
    have HP2 : Hid (P = minE (prd f g)) := by show P = _; rw [HP.out, andE_ok hok]
    have HN4 : Hid (n ≤ 400 ∧ m ≤ 400) := by
      have h1 := val_len (errE_ok hok).1
      have h2 := val_len (errE_ok hok).2
      rw [← Hn.out] at h1
      rw [← Hm.out] at h2
      exact ⟨h1, h2⟩
    obtain ⟨hn4, hm4⟩ := HN4.out
    clear he hok
    go_wp2
    go_loopw [7, 23] (fun v7 v23 wr => ∃ (k q : Nat) (ls : List Nat), v23 = .int .i64 (k : Int) ∧ k ≤ n ∧ q ≤ 400 * k ∧ wr.ownsRow w.heap.size 28 1 v7 q (us ls) ∧ Hid (ls = prd (f.take k) g) ∧ Up w wr) (fun _ v23 _ => n - (intOf v23).toNat)
    case atStart => exact ⟨0, 0, [], rfl, by omega, by omega, World.ownsRow_nil _ _ _ _, rfl, hup3⟩
    case round =>
      obtain ⟨k, q, ls, rfl, hk, hq, hown, HL, hup⟩ := hrel
      by_cases hlt : k < n
      · have hk1 : k < f.length := by rw [← Hn.out]; exact hlt
        obtain ⟨x, Hx⟩ : ∃ x, Hid (x = f[k]'hk1) := ⟨_, rfl⟩
        have hx16 : x < 65536 := by rw [Hx.out]; exact HF.out _ (List.getElem_mem hk1)
        have hv := us_at hk1
        rw [← Hx.out] at hv
        obtain ⟨ad, hAd, hb, hcell⟩ := (HA.out.up hup).at_ hv
        subst hAd
        have HT : Hid (prd (f.take (k + 1)) g = ls ++ g.map fun b => x ||| b) := by show _ = _; rw [take_snoc hk1, prd_snoc, ← Hx.out, HL.out]
        have hlt' : decide (k < n) = true := decide_eq_true hlt
        clear hv
        go_wp2
        go_loopw [7, 29] (fun v7 v29 wr => ∃ (j q2 : Nat) (ls2 : List Nat), v29 = .int .i64 (j : Int) ∧ j ≤ m ∧ q2 ≤ 400 * k + j ∧ wr.ownsRow w.heap.size 28 1 v7 q2 (us ls2) ∧ Hid (ls2 = ls ++ (g.take j).map fun b => x ||| b) ∧ Up w wr) (fun _ v29 _ => m - (intOf v29).toNat)
        case atStart => exact ⟨0, q, ls, rfl, by omega, by omega, hown, by show _ = _; simp, hup⟩
        case round =>
          obtain ⟨j, q2, ls2, rfl, hj, hq2, hown2, HL2, hup2⟩ := hrel
          have hsz2 := hup2.size
          by_cases hjm : j < m
          · have hj1 : j < g.length := by rw [← Hm.out]; exact hjm
            obtain ⟨y, Hy⟩ : ∃ y, Hid (y = g[j]'hj1) := ⟨_, rfl⟩
            have hy16 : y < 65536 := by rw [Hy.out]; exact HG.out _ (List.getElem_mem hj1)
            have hv := us_at hj1
            rw [← Hy.out] at hv
            obtain ⟨be, hBe, hb2, hcell2⟩ := (HB.out.up hup2).at_ hv
            subst hBe
            have hor := or16 hx16 hy16
            have HL3 : Hid (ls2 ++ [x ||| y] = ls ++ (g.take (j + 1)).map fun b => x ||| b) := by show _ = _; rw [take_snoc hj1, List.map_append, ← Hy.out, HL2.out, List.append_assoc]; rfl
            obtain ⟨z, hz⟩ : ∃ z, x ||| y = z := ⟨_, rfl⟩
            rw [hz] at hor HL3
            have hjm' : decide (j < m) = true := decide_eq_true hjm
            clear hv hz
            go_wp2_with (at_builtin; refine wp_appV rfl _ _ 22 28 rfl w.heap.size (.int .u16 0) 2 Tryd.underlying22 Tryd.info28 rfl (by decide) _ q2 _ rfl (hown2.alloc _) (some ⟨wr.heap.size, 0, none⟩) 1 1 (us [z]) rfl rfl (us_one _) (vals_one _ _ _) (by omega) (by simp; omega) ?_; intro v1 w3 hown3 hgrow3)
            go_roundw
            case rel => exact ⟨j + 1, q2 + 1, ls2 ++ [z], by go_num, by omega, by omega, by rw [us_append]; exact hown3, HL3.out, up_append hup2 hown2 hgrow3⟩
            case measure => simp [intOf]; omega
          · have HE : Hid (ls2 = prd (f.take (k + 1)) g) := by show _ = _; rw [HT.out, HL2.out, List.take_of_length_le (by rw [← Hm.out]; omega)]
            have hge : decide (j < m) = false := decide_eq_false hjm
            go_wp2
            go_roundw
            case rel => exact ⟨k + 1, q2, ls2, by go_num, by omega, by omega, hown2, HE.out, hup2⟩
            case measure => simp [intOf]; omega
      · have HE : Hid (ls = prd f g) := by show _ = _; rw [HL.out, List.take_of_length_le (by rw [← Hn.out]; omega)]
        have hge : decide (k < n) = false := decide_eq_false hlt
        have hlen := own_len hown
        obtain ⟨A4, c4, rfl, hc4, hV4, _, _⟩ := own_vals hown
        have hmin := minimal_any A4 q c4 ls wr hV4 hlen.symm (by show Small16 ls; rw [HE.out]; exact prd_small HF.out HG.out) (by omega)
        rw [HE.out, ← HP2.out] at hmin
        have HU := hide hup
        clear hown hV4 hlen
        go_wp2_with fail
        refine hmin.mono ?_
        rintro e w5 h5
        obtain ⟨v5, rfl, hown5, hu5⟩ := h5
        have HO := hide (own_mono hown5 HU.out.size)
        have HU5 := hide (HU.out.trans hu5)
        clear hmin hown5 hu5
        go_wp2
        go_ret2
        exact ⟨_, rfl, HO.out, HU5.out⟩
  · have q0 : (er != 0) = true := by rw [bne_iff_ne]; exact he
    have HP2 : Hid (P = ([], er)) := by show P = _; rw [HP.out, Her.out]; exact andE_bad (by rw [← Her.out]; exact he)
    clear he
    go_wp2
    go_ret2
    exact ⟨.slice none 0 0, by rw [HP2.out]; rfl, by rw [HP2.out]; exact World.ownsRow_nil _ _ _ _, hup3⟩
set_option maxRecDepth 100000 in
set_option maxHeartbeats 4000000 in
theorem given_any (A : Option Addr) (n c : Nat) (f : List Nat) (s : Nat) (w : World) (hA : Vals w A (us f)) (Hn : Hid (n = f.length)) (HF : Hid (Small16 f)) (hs : s < 65536) (hn : n ≤ 1000000) (hnc : n ≤ c) : Calls Tryd.prog 29 #[.slice A n c, .int .u16 (s : Int)] w (RetP w (givE f s)) := by
  have HA := hide hA
  have hvf := valid_any A n c f w hA Hn HF hn hnc
  clear hA
  obtain ⟨P, HP⟩ : ∃ P : List Nat × Int, Hid (P = givE f s) := ⟨_, rfl⟩
  rw [← HP.out]
  obtain ⟨er, Her⟩ : ∃ er, Hid (er = valE f) := ⟨_, rfl⟩
  rw [← Her.out] at hvf
  go_enter Tryd.func29, Tryd.ntmps29
  go_wp2_with fail
  refine hvf.mono ?_
  rintro e w3 ⟨rfl, hup3⟩
  clear hvf
  by_cases he : er = 0
  · have q0 : (er != 0) = false := by rw [bne_eq_false_iff_eq]; exact he
    have hok : valE f = 0 := by rw [← Her.out]; exact he
    have hn4 : n ≤ 400 := by rw [Hn.out]; exact val_len hok
    have HP2 : Hid (P = minE (f.map fun p => andN p s)) := by show P = _; rw [HP.out]; unfold givE; rw [if_neg (by rw [hok]; simp)]
    clear he hok
    go_wp2
    go_loopw [7, 17] (fun v7 v17 wr => ∃ (k : Nat) (ls : List Nat), v17 = .int .i64 (k : Int) ∧ k ≤ n ∧ wr.ownsRow w.heap.size 28 1 v7 k (us ls) ∧ Hid (ls = (f.take k).map fun p => andN p s) ∧ Up w wr) (fun _ v17 _ => n - (intOf v17).toNat)
    case atStart => exact ⟨0, [], rfl, by omega, World.ownsRow_nil _ _ _ _, rfl, hup3⟩
    case round =>
      obtain ⟨k, ls, rfl, hk, hown, HL, hup⟩ := hrel
      have hsz := hup.size
      by_cases hlt : k < n
      · have hk1 : k < f.length := by rw [← Hn.out]; exact hlt
        obtain ⟨x, Hx⟩ : ∃ x, Hid (x = f[k]'hk1) := ⟨_, rfl⟩
        have hx16 : x < 65536 := by rw [Hx.out]; exact HF.out _ (List.getElem_mem hk1)
        have hv := us_at hk1
        rw [← Hx.out] at hv
        obtain ⟨ad, hAd, hb, hcell⟩ := (HA.out.up hup).at_ hv
        subst hAd
        have handn := andn16 hx16 hs
        have HL3 : Hid (ls ++ [andN x s] = (f.take (k + 1)).map fun p => andN p s) := by show _ = _; rw [take_snoc hk1, List.map_append, ← Hx.out, HL.out]; rfl
        obtain ⟨z, hz⟩ : ∃ z, andN x s = z := ⟨_, rfl⟩
        rw [hz] at handn HL3
        have hlt' : decide (k < n) = true := decide_eq_true hlt
        clear hv hz
        go_wp2_with (at_builtin; refine wp_appV rfl _ _ 22 28 rfl w.heap.size (.int .u16 0) 2 Tryd.underlying22 Tryd.info28 rfl (by decide) _ k _ rfl (hown.alloc _) (some ⟨wr.heap.size, 0, none⟩) 1 1 (us [z]) rfl rfl (us_one _) (vals_one _ _ _) (by omega) (by simp; omega) ?_; intro v1 w3 hown3 hgrow3)
        go_roundw
        case rel => exact ⟨k + 1, ls ++ [z], by go_num, by omega, by rw [us_append]; exact hown3, HL3.out, up_append hup hown hgrow3⟩
        case measure => simp [intOf]; omega
      · have HE : Hid (ls = f.map fun p => andN p s) := by show _ = _; rw [HL.out, List.take_of_length_le (by rw [← Hn.out]; omega)]
        have hge : decide (k < n) = false := decide_eq_false hlt
        have hlen := own_len hown
        obtain ⟨A4, c4, rfl, hc4, hV4, _, _⟩ := own_vals hown
        have hmin := minimal_any A4 k c4 ls wr hV4 hlen.symm (by show Small16 ls; rw [HE.out]; intro y hy; obtain ⟨p, hp, rfl⟩ := List.mem_map.1 hy; exact Nat.lt_of_le_of_lt Nat.and_le_left (HF.out p hp)) (by omega)
        rw [HE.out, ← HP2.out] at hmin
        have HU := hide hup
        clear hown hV4 hlen
        go_wp2_with fail
        refine hmin.mono ?_
        rintro e w5 h5
        obtain ⟨v5, rfl, hown5, hu5⟩ := h5
        have HO := hide (own_mono hown5 HU.out.size)
        have HU5 := hide (HU.out.trans hu5)
        clear hmin hown5 hu5
        go_wp2
        go_ret2
        exact ⟨_, rfl, HO.out, HU5.out⟩
  · have q0 : (er != 0) = true := by rw [bne_iff_ne]; exact he
    have HP2 : Hid (P = ([], er)) := by show P = _; rw [HP.out, Her.out]; unfold givE; rw [if_pos (by rw [← Her.out]; exact he)]
    clear he
    go_wp2
    go_ret2
    exact ⟨.slice none 0 0, by rw [HP2.out]; rfl, by rw [HP2.out]; exact World.ownsRow_nil _ _ _ _, hup3⟩
set_option maxRecDepth 100000 in
set_option maxHeartbeats 4000000 in
theorem without_any (A : Option Addr) (n c : Nat) (f : List Nat) (s : Nat) (w : World) (hA : Vals w A (us f)) (Hn : Hid (n = f.length)) (HF : Hid (Small16 f)) (_hs : s < 65536) (hn : n ≤ 1000000) (hnc : n ≤ c) : Calls Tryd.prog 31 #[.slice A n c, .int .u16 (s : Int)] w (RetP w (witE f s)) := by
  have HA := hide hA
  have hvf := valid_any A n c f w hA Hn HF hn hnc
  clear hA
  obtain ⟨P, HP⟩ : ∃ P : List Nat × Int, Hid (P = witE f s) := ⟨_, rfl⟩
  rw [← HP.out]
  obtain ⟨er, Her⟩ : ∃ er, Hid (er = valE f) := ⟨_, rfl⟩
  rw [← Her.out] at hvf
  go_enter Tryd.func31, Tryd.ntmps31
  go_wp2_with fail
  refine hvf.mono ?_
  rintro e w3 ⟨rfl, hup3⟩
  clear hvf
  by_cases he : er = 0
  · have q0 : (er != 0) = false := by rw [bne_eq_false_iff_eq]; exact he
    have hok : valE f = 0 := by rw [← Her.out]; exact he
    have hn4 : n ≤ 400 := by rw [Hn.out]; exact val_len hok
    have HP2 : Hid (P = (f.filter fun p => p &&& s == 0, 0)) := by show P = _; rw [HP.out]; unfold witE; rw [if_neg (by rw [hok]; simp)]
    clear he hok
    go_wp2
    go_loopw [7, 17] (fun v7 v17 wr => ∃ (k q : Nat) (ls : List Nat), v17 = .int .i64 (k : Int) ∧ k ≤ n ∧ q ≤ k ∧ wr.ownsRow w.heap.size 28 1 v7 q (us ls) ∧ Hid (ls = (f.take k).filter fun p => p &&& s == 0) ∧ Up w wr) (fun _ v17 _ => n - (intOf v17).toNat)
    case atStart => exact ⟨0, 0, [], rfl, by omega, by omega, World.ownsRow_nil _ _ _ _, rfl, hup3⟩
    case round =>
      obtain ⟨k, q, ls, rfl, hk, hq, hown, HL, hup⟩ := hrel
      have hsz := hup.size
      by_cases hlt : k < n
      · have hk1 : k < f.length := by rw [← Hn.out]; exact hlt
        obtain ⟨x, Hx⟩ : ∃ x, Hid (x = f[k]'hk1) := ⟨_, rfl⟩
        have hx16 : x < 65536 := by rw [Hx.out]; exact HF.out _ (List.getElem_mem hk1)
        have hv := us_at hk1
        rw [← Hx.out] at hv
        obtain ⟨ad, hAd, hb, hcell⟩ := (HA.out.up hup).at_ hv
        subst hAd
        have hand := and16 (b := s) hx16
        have HL3 : Hid ((f.take (k + 1)).filter (fun p => p &&& s == 0) = ls ++ (if (x &&& s == 0) then [x] else [])) := by show _ = _; rw [filter_step _ hk1, ← Hx.out, HL.out]
        obtain ⟨z, hz⟩ : ∃ z, x &&& s = z := ⟨_, rfl⟩
        rw [hz] at hand HL3
        have hlt' : decide (k < n) = true := decide_eq_true hlt
        clear hv hz
        by_cases hz0 : z = 0
        · have q1 : ((z : Int) == 0) = true := by rw [beq_iff_eq]; omega
          have HL4 : Hid (ls ++ [x] = (f.take (k + 1)).filter fun p => p &&& s == 0) := by show _ = _; rw [HL3.out, hz0]; rfl
          clear hz0 HL3
          go_wp2_with (at_builtin; refine wp_appV rfl _ _ 22 28 rfl w.heap.size (.int .u16 0) 2 Tryd.underlying22 Tryd.info28 rfl (by decide) _ q _ rfl (hown.alloc _) (some ⟨wr.heap.size, 0, none⟩) 1 1 (us [x]) rfl rfl (us_one _) (vals_one _ _ _) (by omega) (by simp; omega) ?_; intro v1 w3 hown3 hgrow3)
          go_roundw
          case rel => exact ⟨k + 1, q + 1, ls ++ [x], by go_num, by omega, by omega, by rw [us_append]; exact hown3, HL4.out, up_append hup hown hgrow3⟩
          case measure => simp [intOf]; omega
        · have q1 : ((z : Int) == 0) = false := by rw [beq_eq_false_iff_ne]; omega
          have HL4 : Hid (ls = (f.take (k + 1)).filter fun p => p &&& s == 0) := by show _ = _; rw [HL3.out, if_neg (by simpa using hz0), List.append_nil]
          clear hz0 HL3
          go_wp2
          go_roundw
          case rel => exact ⟨k + 1, q, ls, by go_num, by omega, by omega, hown, HL4.out, hup⟩
          case measure => simp [intOf]; omega
      · have HE : Hid (ls = f.filter fun p => p &&& s == 0) := by show _ = _; rw [HL.out, List.take_of_length_le (by rw [← Hn.out]; omega)]
        have hge : decide (k < n) = false := decide_eq_false hlt
        have hlen := own_len hown
        rw [← hlen] at hown
        have HO := hide hown
        clear hown hlen
        go_wp2
        go_ret2
        exact ⟨_, by rw [HP2.out]; rfl, by rw [HP2.out, ← HE.out]; exact HO.out, hup⟩
  · have q0 : (er != 0) = true := by rw [bne_iff_ne]; exact he
    have HP2 : Hid (P = ([], er)) := by show P = _; rw [HP.out, Her.out]; unfold witE; rw [if_pos (by rw [← Her.out]; exact he)]
    clear he
    go_wp2
    go_ret2
    exact ⟨.slice none 0 0, by rw [HP2.out]; rfl, by rw [HP2.out]; exact World.ownsRow_nil _ _ _ _, hup3⟩
set_option maxRecDepth 100000 in
set_option maxHeartbeats 4000000 in
theorem rgiven_any (A : Option Addr) (n c : Nat) (f : List Nat) (s : Nat) (w : World) (hA : Vals w A (us f)) (Hn : Hid (n = f.length)) (HF : Hid (Small16 f)) (hs : s < 65536) (hn : n ≤ 1000000) : Calls Tryd.prog 30 #[.slice A n c, .int .u16 (s : Int)] w (RetP w (givE f s)) := by
  have HA := hide hA
  have hvf := rvalid_any A n c f w hA Hn HF hn
  clear hA
  obtain ⟨P, HP⟩ : ∃ P : List Nat × Int, Hid (P = givE f s) := ⟨_, rfl⟩
  rw [← HP.out]
  obtain ⟨er, Her⟩ : ∃ er, Hid (er = valE f) := ⟨_, rfl⟩
  rw [← Her.out] at hvf
  go_enter Tryd.func30, Tryd.ntmps30
  go_wp2_with fail
  refine hvf.mono ?_
  rintro e w3 ⟨rfl, hup3⟩
  clear hvf
  by_cases he : er = 0
  · have q0 : (er != 0) = false := by rw [bne_eq_false_iff_eq]; exact he
    have hok : valE f = 0 := by rw [← Her.out]; exact he
    have hn4 : n ≤ 400 := by rw [Hn.out]; exact val_len hok
    have HP2 : Hid (P = minE (f.map fun p => andN p s)) := by show P = _; rw [HP.out]; unfold givE; rw [if_neg (by rw [hok]; simp)]
    clear he hok
    go_wp2
    go_loopw [7, 8] (fun v7 v17 wr => ∃ (k : Nat) (ls : List Nat), v17 = .int .i64 (k : Int) ∧ k ≤ n ∧ wr.ownsRow w.heap.size 28 1 v7 k (us ls) ∧ Hid (ls = (f.take k).map fun p => andN p s) ∧ Up w wr) (fun _ v17 _ => n - (intOf v17).toNat)
    case atStart => exact ⟨0, [], rfl, by omega, World.ownsRow_nil _ _ _ _, rfl, hup3⟩
    case round =>
      obtain ⟨k, ls, rfl, hk, hown, HL, hup⟩ := hrel
      have hsz := hup.size
      by_cases hlt : k < n
      · have hk1 : k < f.length := by rw [← Hn.out]; exact hlt
        obtain ⟨x, Hx⟩ : ∃ x, Hid (x = f[k]'hk1) := ⟨_, rfl⟩
        have hx16 : x < 65536 := by rw [Hx.out]; exact HF.out _ (List.getElem_mem hk1)
        have hv := us_at hk1
        rw [← Hx.out] at hv
        obtain ⟨ad, hAd, hb, hcell⟩ := (HA.out.up hup).at_ hv
        subst hAd
        have handn := andn16 hx16 hs
        have HL3 : Hid (ls ++ [andN x s] = (f.take (k + 1)).map fun p => andN p s) := by show _ = _; rw [take_snoc hk1, List.map_append, ← Hx.out, HL.out]; rfl
        obtain ⟨z, hz⟩ : ∃ z, andN x s = z := ⟨_, rfl⟩
        rw [hz] at handn HL3
        have hlt' : decide (k < n) = true := decide_eq_true hlt
        clear hv hz
        go_wp2_with (at_builtin; refine wp_appV rfl _ _ 22 28 rfl w.heap.size (.int .u16 0) 2 Tryd.underlying22 Tryd.info28 rfl (by decide) _ k _ rfl (hown.alloc _) (some ⟨wr.heap.size, 0, none⟩) 1 1 (us [z]) rfl rfl (us_one _) (vals_one _ _ _) (by omega) (by simp; omega) ?_; intro v1 w3 hown3 hgrow3)
        go_roundw
        case rel => exact ⟨k + 1, ls ++ [z], by go_num, by omega, by rw [us_append]; exact hown3, HL3.out, up_append hup hown hgrow3⟩
        case measure => simp [intOf]; omega
      · have HE : Hid (ls = f.map fun p => andN p s) := by show _ = _; rw [HL.out, List.take_of_length_le (by rw [← Hn.out]; omega)]
        have hge : decide (k < n) = false := decide_eq_false hlt
        have hlen := own_len hown
        obtain ⟨A4, c4, rfl, hc4, hV4, _, _⟩ := own_vals hown
        have hmin := rminimal_any A4 k c4 ls wr hV4 hlen.symm (by show Small16 ls; rw [HE.out]; intro y hy; obtain ⟨p, hp, rfl⟩ := List.mem_map.1 hy; exact Nat.lt_of_le_of_lt Nat.and_le_left (HF.out p hp)) (by omega)
        rw [HE.out, ← HP2.out] at hmin
        have HU := hide hup
        clear hown hV4 hlen
        go_wp2_with fail
        refine hmin.mono ?_
        rintro e w5 h5
        obtain ⟨v5, rfl, hown5, hu5⟩ := h5
        have HO := hide (own_mono hown5 HU.out.size)
        have HU5 := hide (HU.out.trans hu5)
        clear hmin hown5 hu5
        go_wp2
        go_ret2
        exact ⟨_, rfl, HO.out, HU5.out⟩
  · have q0 : (er != 0) = true := by rw [bne_iff_ne]; exact he
    have HP2 : Hid (P = ([], er)) := by show P = _; rw [HP.out, Her.out]; unfold givE; rw [if_pos (by rw [← Her.out]; exact he)]
    clear he
    go_wp2
    go_ret2
    exact ⟨.slice none 0 0, by rw [HP2.out]; rfl, by rw [HP2.out]; exact World.ownsRow_nil _ _ _ _, hup3⟩
set_option maxRecDepth 100000 in
set_option maxHeartbeats 4000000 in
theorem rwithout_any (A : Option Addr) (n c : Nat) (f : List Nat) (s : Nat) (w : World) (hA : Vals w A (us f)) (Hn : Hid (n = f.length)) (HF : Hid (Small16 f)) (_hs : s < 65536) (hn : n ≤ 1000000) : Calls Tryd.prog 32 #[.slice A n c, .int .u16 (s : Int)] w (RetP w (witE f s)) := by
  have HA := hide hA
  have hvf := rvalid_any A n c f w hA Hn HF hn
  clear hA
  obtain ⟨P, HP⟩ : ∃ P : List Nat × Int, Hid (P = witE f s) := ⟨_, rfl⟩
  rw [← HP.out]
  obtain ⟨er, Her⟩ : ∃ er, Hid (er = valE f) := ⟨_, rfl⟩
  rw [← Her.out] at hvf
  go_enter Tryd.func32, Tryd.ntmps32
  go_wp2_with fail
  refine hvf.mono ?_
  rintro e w3 ⟨rfl, hup3⟩
  clear hvf
  by_cases he : er = 0
  · have q0 : (er != 0) = false := by rw [bne_eq_false_iff_eq]; exact he
    have hok : valE f = 0 := by rw [← Her.out]; exact he
    have hn4 : n ≤ 400 := by rw [Hn.out]; exact val_len hok
    have HP2 : Hid (P = (f.filter fun p => p &&& s == 0, 0)) := by show P = _; rw [HP.out]; unfold witE; rw [if_neg (by rw [hok]; simp)]
    clear he hok
    go_wp2
    go_loopw [7, 8] (fun v7 v17 wr => ∃ (k q : Nat) (ls : List Nat), v17 = .int .i64 (k : Int) ∧ k ≤ n ∧ q ≤ k ∧ wr.ownsRow w.heap.size 28 1 v7 q (us ls) ∧ Hid (ls = (f.take k).filter fun p => p &&& s == 0) ∧ Up w wr) (fun _ v17 _ => n - (intOf v17).toNat)
    case atStart => exact ⟨0, 0, [], rfl, by omega, by omega, World.ownsRow_nil _ _ _ _, rfl, hup3⟩
    case round =>
      obtain ⟨k, q, ls, rfl, hk, hq, hown, HL, hup⟩ := hrel
      have hsz := hup.size
      by_cases hlt : k < n
      · have hk1 : k < f.length := by rw [← Hn.out]; exact hlt
        obtain ⟨x, Hx⟩ : ∃ x, Hid (x = f[k]'hk1) := ⟨_, rfl⟩
        have hx16 : x < 65536 := by rw [Hx.out]; exact HF.out _ (List.getElem_mem hk1)
        have hv := us_at hk1
        rw [← Hx.out] at hv
        obtain ⟨ad, hAd, hb, hcell⟩ := (HA.out.up hup).at_ hv
        subst hAd
        have hand := and16 (b := s) hx16
        have HL3 : Hid ((f.take (k + 1)).filter (fun p => p &&& s == 0) = ls ++ (if (x &&& s == 0) then [x] else [])) := by show _ = _; rw [filter_step _ hk1, ← Hx.out, HL.out]
        obtain ⟨z, hz⟩ : ∃ z, x &&& s = z := ⟨_, rfl⟩
        rw [hz] at hand HL3
        have hlt' : decide (k < n) = true := decide_eq_true hlt
        clear hv hz
        by_cases hz0 : z = 0
        · have q1 : ((z : Int) == 0) = true := by rw [beq_iff_eq]; omega
          have HL4 : Hid (ls ++ [x] = (f.take (k + 1)).filter fun p => p &&& s == 0) := by show _ = _; rw [HL3.out, hz0]; rfl
          clear hz0 HL3
          go_wp2_with (at_builtin; refine wp_appV rfl _ _ 22 28 rfl w.heap.size (.int .u16 0) 2 Tryd.underlying22 Tryd.info28 rfl (by decide) _ q _ rfl (hown.alloc _) (some ⟨wr.heap.size, 0, none⟩) 1 1 (us [x]) rfl rfl (us_one _) (vals_one _ _ _) (by omega) (by simp; omega) ?_; intro v1 w3 hown3 hgrow3)
          go_roundw
          case rel => exact ⟨k + 1, q + 1, ls ++ [x], by go_num, by omega, by omega, by rw [us_append]; exact hown3, HL4.out, up_append hup hown hgrow3⟩
          case measure => simp [intOf]; omega
        · have q1 : ((z : Int) == 0) = false := by rw [beq_eq_false_iff_ne]; omega
          have HL4 : Hid (ls = (f.take (k + 1)).filter fun p => p &&& s == 0) := by show _ = _; rw [HL3.out, if_neg (by simpa using hz0), List.append_nil]
          clear hz0 HL3
          go_wp2
          go_roundw
          case rel => exact ⟨k + 1, q, ls, by go_num, by omega, by omega, hown, HL4.out, hup⟩
          case measure => simp [intOf]; omega
      · have HE : Hid (ls = f.filter fun p => p &&& s == 0) := by show _ = _; rw [HL.out, List.take_of_length_le (by rw [← Hn.out]; omega)]
        have hge : decide (k < n) = false := decide_eq_false hlt
        have hlen := own_len hown
        rw [← hlen] at hown
        have HO := hide hown
        clear hown hlen
        go_wp2
        go_ret2
        exact ⟨_, by rw [HP2.out]; rfl, by rw [HP2.out, ← HE.out]; exact HO.out, hup⟩
  · have q0 : (er != 0) = true := by rw [bne_iff_ne]; exact he
    have HP2 : Hid (P = ([], er)) := by show P = _; rw [HP.out, Her.out]; unfold witE; rw [if_pos (by rw [← Her.out]; exact he)]
    clear he
    go_wp2
    go_ret2
    exact ⟨.slice none 0 0, by rw [HP2.out]; rfl, by rw [HP2.out]; exact World.ownsRow_nil _ _ _ _, hup3⟩
end Go.Proofs.YtfdlmgjjpcdkpaaDoor
