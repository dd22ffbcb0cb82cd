/- Walks: the text of a list of sets; what the laws' awake returns. -/
import Derived.Test.YtfdlmgjjpcdkpaaDoorGb
import Derived.Test.YtfdlmgjjpcdkpaaDoorSk
namespace Go.Proofs.YtfdlmgjjpcdkpaaDoor
open Go.RowKit

/-- The text of a list of sets. -/
def fmL (f : List Nat) : List UInt8 := Lib.join (f.map txU) [32]
theorem tx_len {s : Nat} : (txU s).length ≤ 50 := by
  unfold txU
  have h1 := fm_len (mem 16 s) (fun i hi => mem_lt hi)
  have h2 := mem_len 16 s
  simp
  omega
theorem fmL_len (f : List Nat) : (fmL f).length ≤ 51 * f.length := by
  have key : ∀ r : List Nat, Lib.lens (r.map txU) ≤ 50 * r.length := by
    intro r
    induction r with
    | nil => simp [Lib.lens]
    | cons y r ih =>
      have h2 := tx_len (s := y)
      simp only [Lib.lens, List.map_cons, List.sum_cons, List.length_cons, List.map_map] at ih ⊢
      omega
  unfold fmL
  cases f with
  | nil => simp [Lib.join_nil]
  | cons x r =>
    have h1 := key r
    have h2 := tx_len (s := x)
    rw [List.map_cons, Lib.join_cons, List.length_append, Lib.joinTail_length]
    simp only [List.length_map, List.length_cons, List.length_nil]
    omega
theorem tx_map (f : List Nat) : ((f.map fun s => bu (txU s)).map fun (b : ByteArray) => b.data.toList) = f.map txU := by
  rw [List.map_map]
  refine List.map_congr_left fun i _ => ?_
  simp [bu]
theorem joinL_any (v : Value) (f : List Nat) (w : World) (base : Nat) (hown : w.ownsRow base 9 1 v f.length (ss (f.map fun s => bu (txU s)))) (hl : f.length ≤ 1000000) :
    Calls Tryd.prog 61 #[v, .string ⟨#[32]⟩] w (RetV w (.string (bu (fmL f)))) := by
  rcases hown.2 with ⟨rfl, h0⟩ | ⟨g, cap, cur, rfl, hb, hg, hnc, _⟩
  · have : f = [] := List.length_eq_zero_iff.1 h0
    subst this
    refine (Tryd.strings_Join_none none 0 ⟨#[32]⟩ w).mono ?_
    rintro e w' ⟨rfl, rfl⟩
    exact ⟨rfl, Up.refl _⟩
  · obtain ⟨A1, c1, he, _, hV, _, _⟩ := own_vals hown
    cases he
    have hj := Tryd.strings_Join g 0 cap (f.map fun s => bu (txU s)) ⟨#[32]⟩ w (fun j x hx => by
        obtain ⟨ad, hAd, _, hc⟩ := hV.at_ (k := j) (x := .string x) (by simp only [ss, List.getElem?_map, hx, Option.map_some])
        injection hAd with hAd
        subst hAd
        rw [← hc]
        congr 1
        unfold Addr.add
        split <;> simp_all) (Array.getElem?_eq_some_iff.1 hg).1 (by rw [List.length_map]; omega) (by rw [List.length_map]; exact hnc) (by
        rw [tx_map]
        have := fmL_len f
        unfold fmL at this
        show (Lib.join (f.map txU) [32]).length ≤ _
        omega)
    rw [List.length_map, tx_map] at hj
    refine hj.mono ?_
    rintro e w' ⟨rfl, hu⟩
    exact ⟨rfl, hu⟩
set_option maxRecDepth 100000 in
set_option maxHeartbeats 4000000 in
theorem formatL_any (A : Option Addr) (n c : Nat) (f : List Nat) (w : World) (hTab : Tabs w) (hA : Vals w A (us f)) (Hn : Hid (n = f.length)) (HF : Hid (Small16 f)) (hn : n ≤ 900000) :
    Calls Tryd.prog 37 #[.slice A n c] w (RetV w (.string (bu (fmL f)))) := by
  have HA := hide hA
  have HTab := hide hTab
  clear hA hTab
  go_enter Tryd.func37, Tryd.ntmps37
  go_wp2
  go_loopw [3, 8] (fun v3 v8 wr => ∃ k : Nat, v8 = .int .i64 (k : Int) ∧ k ≤ n ∧ wr.ownsRow w.heap.size 9 1 v3 k (ss ((f.take k).map fun s => bu (txU s))) ∧ Up w wr) (fun _ v8 _ => n - (intOf v8).toNat)
  case atStart => exact ⟨0, rfl, by omega, World.ownsRow_nil _ _ _ _, Up.refl _⟩
  case round =>
    obtain ⟨k, rfl, hk, hown, hup⟩ := hrel
    by_cases hlt : k < n
    · have hk1 : k < f.length := by rw [← Hn.out]; exact hlt
      obtain ⟨x, Hx⟩ : ∃ x, Hid (x = f[k]'hk1) := ⟨_, rfl⟩
      have hx16 : x < 65536 := by rw [Hx.out]; exact HF.out _ (List.getElem_mem hk1)
      have hv := us_at hk1
      rw [← Hx.out] at hv
      obtain ⟨ad, hAd, hb, hcell⟩ := (HA.out.up hup).at_ hv
      subst hAd
      obtain ⟨T, HTk⟩ : ∃ T, Hid (T = (f.take k).map fun s => bu (txU s)) := ⟨_, rfl⟩
      obtain ⟨y, Hy⟩ : ∃ y, Hid (y = bu (txU x)) := ⟨_, rfl⟩
      have HT2 : Hid ((f.take (k + 1)).map (fun s => bu (txU s)) = T ++ [y]) := by
        show _ = _
        rw [take_snoc hk1, List.map_append, HTk.out, Hy.out, ← Hx.out]
        rfl
      have hfo := format_any x wr (HTab.out.up hup) hx16
      rw [← Hy.out] at hfo
      rw [← HTk.out] at hown
      have hlt' : decide (k < n) = true := decide_eq_true hlt
      clear hv
      go_wp2_with fail
      refine hfo.mono ?_
      rintro e w2 ⟨rfl, hu2⟩
      have hown2 := own_up hown hu2
      have hup2 := hup.trans hu2
      have hsz2 := hup2.size
      go_wp2_with (at_builtin; refine wp_appV rfl _ _ 67 9 rfl w.heap.size (.string ⟨#[]⟩) 16 Tryd.underlying67 Tryd.info9 rfl (by decide) _ k _ rfl (hown2.alloc _) (some ⟨w2.heap.size, 0, none⟩) 1 1 (ss [y]) rfl rfl (ss_one _) (vals_one _ _ _) (by omega) (by simp; omega) ?_; intro v1 w3 hown1 hgrow1)
      go_roundw
      case rel => exact ⟨k + 1, by go_num, by omega, by rw [HT2.out, ss_append]; exact hown1, up_append hup2 hown2 hgrow1⟩
      case measure => simp [intOf]; omega
    · have hown2 := hown
      have hge : decide (k < n) = false := decide_eq_false hlt
      rw [List.take_of_length_le (by rw [← Hn.out]; omega), show k = f.length by rw [← Hn.out]; omega] at hown2
      have hj := joinL_any _ f wr w.heap.size hown2 (by rw [← Hn.out]; omega)
      obtain ⟨jn, Hjn⟩ : ∃ jn, Hid (jn = bu (fmL f)) := ⟨_, rfl⟩
      rw [← Hjn.out] at hj
      have HO := hide hown
      clear hown hown2
      go_wp2_with fail
      refine hj.mono ?_
      rintro e w2 ⟨rfl, hu2⟩
      go_wp2
      go_ret
      exact ⟨by rw [Hjn.out]; rfl, hup.trans hu2⟩
theorem dec_one {i : Nat} (h : i < 10) : Lib.decDigits i = [UInt8.ofNat (48 + i)] := by rw [Lib.decDigits, dif_pos h]
theorem ex1 : andE [3, 5, 6] [8] = ([11, 13, 14], 0) := by decide +kernel
theorem ex2 : orE [3, 5, 6] [8] = ([8, 3, 5, 6], 0) := by decide +kernel
theorem ex3 : givE [3, 5, 6] 1 = ([2, 4], 0) := by decide +kernel
theorem ex4 : witE [3, 5, 6] 1 = ([6], 0) := by decide +kernel
theorem ex5 : minE [3, 2, 5, 2] = ([2, 5], 0) := by decide +kernel
theorem ex6 : maxE [3, 2, 5, 2] = ([3, 5], 0) := by decide +kernel
theorem ex7 : bu (fmL [11, 13, 14]) = ⟨#[123, 48, 32, 49, 32, 51, 125, 32, 123, 48, 32, 50, 32, 51, 125, 32, 123, 49, 32, 50, 32, 51, 125]⟩ := by
  have h1 : mem 16 11 = [0, 1, 3] := by decide +kernel
  have h2 : mem 16 13 = [0, 2, 3] := by decide +kernel
  have h3 : mem 16 14 = [1, 2, 3] := by decide +kernel
  unfold fmL txU fmU
  simp only [List.map_cons, List.map_nil, h1, h2, h3, dec_one (show 0 < 10 by omega), dec_one (show 1 < 10 by omega), dec_one (show 2 < 10 by omega), dec_one (show 3 < 10 by omega)]
  decide +kernel
theorem small_lit (l : List Nat) (h : l.all (fun x => decide (x < 65536)) = true) : Small16 l := fun x hx => by simpa using List.all_eq_true.1 h x hx
set_option maxRecDepth 100000 in
set_option maxHeartbeats 4000000 in
theorem awake_any (w : World) (hTab : Tabs w) : Calls Tryd.prog 10 #[] w (RetV w (.bool true)) := by
  have HTab := hide hTab
  clear hTab
  go_enter Tryd.func10, Tryd.ntmps10
  have HV0 : Hid (Vals (w.alloc (.cells #[.int .u16 3, .int .u16 5, .int .u16 6] 28)) (some ⟨w.heap.size, 0, none⟩) (us [3, 5, 6])) := vals_new _ _ _
  have HF : Hid (Small16 [3, 5, 6]) := small_lit _ rfl
  have H8 : Hid (Small16 [8]) := small_lit _ rfl
  have HM : Hid (Small16 [3, 2, 5, 2]) := small_lit _ rfl
  go_wp2_with fail
  have h1 := and_fam (some ⟨w.heap.size, 0, none⟩) (some ⟨w.heap.size + 1, 0, none⟩) 3 3 1 1 [3, 5, 6] [8] ((w.alloc (.cells #[.int .u16 3, .int .u16 5, .int .u16 6] 28)).alloc (.cells #[.int .u16 8] 28)) (HV0.out.up ((Up.refl _).alloc _)) (by have := vals_new (w.alloc (.cells #[.int .u16 3, .int .u16 5, .int .u16 6] 28)) #[.int .u16 8] 28; rw [World.size_alloc] at this; exact this) rfl rfl HF H8 (by omega) (by omega) (by omega) (by omega)
  rw [ex1] at h1
  refine h1.mono ?_
  clear h1
  rintro e w1 ⟨v1, rfl, hown1, hu1⟩
  replace hown1 : w1.ownsRow _ 28 1 v1 3 (us [11, 13, 14]) := hown1
  obtain ⟨A1, c1, rfl, hc1, V1, _, _⟩ := own_vals hown1
  have HV1 := hide V1
  have hf1 : Up (w.alloc (.cells #[.int .u16 3, .int .u16 5, .int .u16 6] 28)) w1 := ((Up.refl _).alloc _).trans hu1
  replace hu1 : Up w w1 := (((Up.refl w).alloc _).alloc _).trans hu1
  clear hown1 V1 
  go_wp2_with fail
  have h2 := or_fam (some ⟨w.heap.size, 0, none⟩) (some ⟨w1.heap.size, 0, none⟩) 3 3 1 1 [3, 5, 6] [8] (w1.alloc (.cells #[.int .u16 8] 28)) (HV0.out.up (hf1.alloc _)) (vals_new _ _ _) rfl rfl HF H8 (by omega) (by omega) (by omega) (by omega)
  rw [ex2] at h2
  refine h2.mono ?_
  clear h2
  rintro e w2 ⟨v2, rfl, hown2, hu2⟩
  replace hown2 : w2.ownsRow _ 28 1 v2 4 (us [8, 3, 5, 6]) := hown2
  obtain ⟨A2, c2, rfl, hc2, V2, _, _⟩ := own_vals hown2
  have HV2 := hide V2
  have hf2 : Up (w.alloc (.cells #[.int .u16 3, .int .u16 5, .int .u16 6] 28)) w2 := (hf1.alloc _).trans hu2
  have hs2 : Up w1 w2 := ((Up.refl w1).alloc _).trans hu2
  replace hu2 : Up w w2 := (hu1.alloc _).trans hu2
  clear hown2 V2 hu1 hf1
  go_wp2_with fail
  have h3 := given_any (some ⟨w.heap.size, 0, none⟩) 3 3 [3, 5, 6] 1 w2 (HV0.out.up hf2) rfl HF (by omega) (by omega) (by omega)
  rw [ex3] at h3
  refine h3.mono ?_
  clear h3
  rintro e w3 ⟨v3, rfl, hown3, hu3⟩
  replace hown3 : w3.ownsRow _ 28 1 v3 2 (us [2, 4]) := hown3
  obtain ⟨A3, c3, rfl, hc3, V3, _, _⟩ := own_vals hown3
  have HV3 := hide V3
  have hf3 : Up (w.alloc (.cells #[.int .u16 3, .int .u16 5, .int .u16 6] 28)) w3 := hf2.trans hu3
  have hs3 : Up w2 w3 := (Up.refl w2).trans hu3
  replace hu3 : Up w w3 := hu2.trans hu3
  clear hown3 V3 hu2 hf2
  go_wp2_with fail
  have h4 := without_any (some ⟨w.heap.size, 0, none⟩) 3 3 [3, 5, 6] 1 w3 (HV0.out.up hf3) rfl HF (by omega) (by omega) (by omega)
  rw [ex4] at h4
  refine h4.mono ?_
  clear h4
  rintro e w4 ⟨v4, rfl, hown4, hu4⟩
  replace hown4 : w4.ownsRow _ 28 1 v4 1 (us [6]) := hown4
  obtain ⟨A4, c4, rfl, hc4, V4, _, _⟩ := own_vals hown4
  have HV4 := hide V4
  have hf4 : Up (w.alloc (.cells #[.int .u16 3, .int .u16 5, .int .u16 6] 28)) w4 := hf3.trans hu4
  have hs4 : Up w3 w4 := (Up.refl w3).trans hu4
  replace hu4 : Up w w4 := hu3.trans hu4
  clear hown4 V4 hu3 hf3
  go_wp2_with fail
  have h5 := minimal_any (some ⟨w4.heap.size, 0, none⟩) 4 4 [3, 2, 5, 2] (w4.alloc (.cells #[.int .u16 3, .int .u16 2, .int .u16 5, .int .u16 2] 28)) (vals_new _ _ _) rfl HM (by omega)
  rw [ex5] at h5
  refine h5.mono ?_
  clear h5
  rintro e w5 ⟨v5, rfl, hown5, hu5⟩
  replace hown5 : w5.ownsRow _ 28 1 v5 2 (us [2, 5]) := hown5
  obtain ⟨A5, c5, rfl, hc5, V5, _, _⟩ := own_vals hown5
  have HV5 := hide V5
  have hs5 : Up w4 w5 := ((Up.refl w4).alloc _).trans hu5
  replace hu5 : Up w w5 := (hu4.alloc _).trans hu5
  clear hown5 V5
  go_wp2_with fail
  have h6 := maximal_any (some ⟨w5.heap.size, 0, none⟩) 4 4 [3, 2, 5, 2] (w5.alloc (.cells #[.int .u16 3, .int .u16 2, .int .u16 5, .int .u16 2] 28)) (vals_new _ _ _) rfl HM (by omega)
  rw [ex6] at h6
  refine h6.mono ?_
  clear h6
  rintro e w6 ⟨v6, rfl, hown6, hu6⟩
  replace hown6 : w6.ownsRow _ 28 1 v6 2 (us [3, 5]) := hown6
  obtain ⟨A6, c6, rfl, hc6, V6, _, _⟩ := own_vals hown6
  have HV6 := hide V6
  have hs6 : Up w5 w6 := ((Up.refl w5).alloc _).trans hu6
  replace hu6 : Up w w6 := (hu5.alloc _).trans hu6
  clear hown6 V6 hu5
  have HU := hide hu6
  replace HV5 := hide (HV5.out.up hs6)
  replace HV4 := hide (HV4.out.up (hs5.trans hs6))
  replace HV3 := hide (HV3.out.up (hs4.trans (hs5.trans hs6)))
  replace HV2 := hide (HV2.out.up (hs3.trans (hs4.trans (hs5.trans hs6))))
  replace HV1 := hide (HV1.out.up (hs2.trans (hs3.trans (hs4.trans (hs5.trans hs6)))))
  clear hs2 hs3 hs4 hs5 hs6 hu6
  have z6 : Up w6 w6 := Up.refl _
  go_wp2_with fail
  have h7 := equal_any A1 (some ⟨w6.heap.size, 0, none⟩) 3 c1 3 3 [11, 13, 14] [11, 13, 14] (w6.alloc (.cells #[.int .u16 11, .int .u16 13, .int .u16 14] 28)) (HV1.out.up (z6.alloc _)) (vals_new _ _ _) rfl rfl (by omega) (by omega)
  rw [decide_eq_true rfl] at h7
  refine h7.mono ?_
  clear h7
  rintro e w7 ⟨rfl, hu7⟩
  have z7 : Up w6 w7 := (z6.alloc _).trans hu7
  clear hu7 
  go_wp2_with fail
  have h8 := equal_any A2 (some ⟨w7.heap.size, 0, none⟩) 4 c2 4 4 [8, 3, 5, 6] [8, 3, 5, 6] (w7.alloc (.cells #[.int .u16 8, .int .u16 3, .int .u16 5, .int .u16 6] 28)) (HV2.out.up (z7.alloc _)) (vals_new _ _ _) rfl rfl (by omega) (by omega)
  rw [decide_eq_true rfl] at h8
  refine h8.mono ?_
  clear h8
  rintro e w8 ⟨rfl, hu8⟩
  have z8 : Up w6 w8 := (z7.alloc _).trans hu8
  clear hu8 z7
  go_wp2_with fail
  have h9 := equal_any A3 (some ⟨w8.heap.size, 0, none⟩) 2 c3 2 2 [2, 4] [2, 4] (w8.alloc (.cells #[.int .u16 2, .int .u16 4] 28)) (HV3.out.up (z8.alloc _)) (vals_new _ _ _) rfl rfl (by omega) (by omega)
  rw [decide_eq_true rfl] at h9
  refine h9.mono ?_
  clear h9
  rintro e w9 ⟨rfl, hu9⟩
  have z9 : Up w6 w9 := (z8.alloc _).trans hu9
  clear hu9 z8
  go_wp2_with fail
  have h10 := equal_any A4 (some ⟨w9.heap.size, 0, none⟩) 1 c4 1 1 [6] [6] (w9.alloc (.cells #[.int .u16 6] 28)) (HV4.out.up (z9.alloc _)) (vals_new _ _ _) rfl rfl (by omega) (by omega)
  rw [decide_eq_true rfl] at h10
  refine h10.mono ?_
  clear h10
  rintro e w10 ⟨rfl, hu10⟩
  have z10 : Up w6 w10 := (z9.alloc _).trans hu10
  clear hu10 z9
  go_wp2_with fail
  have h11 := equal_any A5 (some ⟨w10.heap.size, 0, none⟩) 2 c5 2 2 [2, 5] [2, 5] (w10.alloc (.cells #[.int .u16 2, .int .u16 5] 28)) (HV5.out.up (z10.alloc _)) (vals_new _ _ _) rfl rfl (by omega) (by omega)
  rw [decide_eq_true rfl] at h11
  refine h11.mono ?_
  clear h11
  rintro e w11 ⟨rfl, hu11⟩
  have z11 : Up w6 w11 := (z10.alloc _).trans hu11
  clear hu11 z10
  go_wp2_with fail
  have h12 := equal_any A6 (some ⟨w11.heap.size, 0, none⟩) 2 c6 2 2 [3, 5] [3, 5] (w11.alloc (.cells #[.int .u16 3, .int .u16 5] 28)) (HV6.out.up (z11.alloc _)) (vals_new _ _ _) rfl rfl (by omega) (by omega)
  rw [decide_eq_true rfl] at h12
  refine h12.mono ?_
  clear h12
  rintro e w12 ⟨rfl, hu12⟩
  have z12 : Up w6 w12 := (z11.alloc _).trans hu12
  clear hu12 z11
  go_wp2_with fail
  have h13 := formatL_any A1 3 c1 [11, 13, 14] w12 (HTab.out.up (HU.out.trans z12)) (HV1.out.up z12) rfl (small_lit _ rfl) (by omega)
  rw [ex7] at h13
  refine h13.mono ?_
  clear h13
  rintro e w13 ⟨rfl, hu13⟩
  go_wp2
  go_ret
  exact ⟨rfl, HU.out.trans (z12.trans hu13)⟩
end Go.Proofs.YtfdlmgjjpcdkpaaDoor
