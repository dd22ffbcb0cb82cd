/- The law on the set with other members. -/
import Derived.Test.YthepjpahabcpkaaDoorSp
namespace Go.Proofs.YthepjpahabcpkaaDoor
open Go.RowKit

/-- The new numbers of some members, up to the first one that has none. -/
def renL (tos : List Int) : List Nat → List Int
  | [] => []
  | i :: r => match tos[i]? with
    | none => [-1]
    | some x => x :: renL tos r
theorem renL_ofS (tos : List Int) : ∀ (M : List Nat) (acc : Nat), ofS acc (renL tos M) = renS tos acc M := by
  intro M
  induction M with
  | nil => intro acc; rfl
  | cons i M ih =>
    intro acc
    rw [renL, renS]
    cases tos[i]? with
    | none =>
      show ofS acc [-1] = _
      rw [ofS]
      have : addS acc (-1) = (acc, 7) := by unfold addS; rw [if_pos (by omega)]
      rw [this]
      rfl
    | some x =>
      show ofS acc (x :: renL tos M) = _
      rw [ofS]
      by_cases h : (addS acc x).2 = 0
      · rw [if_pos h, ih]
        simp [h]
      · rw [if_neg h]
        simp [h]
theorem ren_ok (tos : List Int) : ∀ (M : List Nat) (acc : Nat), (ofS acc (renL tos M)).2 = 0 → renL tos M = M.map (fun i => tos.getD i 0) ∧ ∀ i ∈ M, i < tos.length ∧ 0 ≤ tos.getD i 0 ∧ tos.getD i 0 < 12 := by
  intro M
  induction M with
  | nil => intro acc _; exact ⟨rfl, fun i hi => by cases hi⟩
  | cons i M ih =>
    intro acc h
    rw [renL] at h ⊢
    cases hx : tos[i]? with
    | none =>
      rw [hx] at h
      change (ofS acc [-1]).2 = 0 at h
      rw [ofS] at h
      have : addS acc (-1) = (acc, 7) := by unfold addS; rw [if_pos (by omega)]
      rw [this] at h
      simp at h
    | some x =>
      rw [hx] at h
      change (ofS acc (x :: renL tos M)).2 = 0 at h
      rw [ofS] at h
      have hg : tos.getD i 0 = x := by rw [List.getD, hx]; rfl
      have hl : i < tos.length := (List.getElem?_eq_some_iff.1 hx).1
      by_cases h0 : (addS acc x).2 = 0
      · rw [if_pos h0] at h
        obtain ⟨h1, h2⟩ := ih _ h
        refine ⟨?_, fun j hj => ?_⟩
        · show x :: renL tos M = _
          rw [h1, List.map_cons, hg]
        · rcases List.mem_cons.1 hj with rfl | hj
          · rw [hg]
            refine ⟨hl, ?_⟩
            unfold addS at h0
            by_cases hr : x < 0 ∨ 12 ≤ x
            · rw [if_pos hr] at h0; simp at h0
            · omega
          · exact h2 j hj
      · rw [if_neg h0] at h
        exact absurd h h0
/-- The list by which the new names lead back. -/
def backL (f : Nat → Nat) (M : List Nat) (b : List Nat) : List Nat := M.foldl (fun b i => b.set (f i) i) b
theorem back_len (f : Nat → Nat) : ∀ (M : List Nat) (b : List Nat), (backL f M b).length = b.length := by
  intro M
  induction M with
  | nil => intro b; rfl
  | cons i M ih =>
    intro b
    unfold backL at ih ⊢
    rw [List.foldl_cons, ih, List.length_set]
theorem back_other (f : Nat → Nat) : ∀ (M : List Nat) (b : List Nat) (j : Nat), (∀ i ∈ M, f i ≠ j) → (backL f M b)[j]? = b[j]? := by
  intro M
  induction M with
  | nil => intro b j _; rfl
  | cons i M ih =>
    intro b j h
    have := ih (b.set (f i) i) j (fun k hk => h k (by simp [hk]))
    unfold backL at this ⊢
    rw [List.foldl_cons, this, List.getElem?_set_ne (h i (by simp))]
theorem back_at (f : Nat → Nat) : ∀ (M : List Nat) (b : List Nat), (M.map f).Nodup → (∀ i ∈ M, f i < b.length) → ∀ i ∈ M, (backL f M b)[f i]? = some i := by
  intro M
  induction M with
  | nil => intro b _ _ i hi; cases hi
  | cons k M ih =>
    intro b hnd hlt i hi
    rw [List.map_cons, List.nodup_cons] at hnd
    have e : backL f (k :: M) b = backL f M (b.set (f k) k) := rfl
    rw [e]
    rcases List.mem_cons.1 hi with rfl | hi
    · rw [back_other f M _ (f i) (fun j hj hfj => hnd.1 (by rw [← hfj]; exact List.mem_map_of_mem hj))]
      rw [List.getElem?_set_self (hlt i (by simp))]
    · exact ih _ hnd.2 (fun j hj => by rw [List.length_set]; exact hlt j (by simp [hj])) i hi
/-- Renamed and named back, a set of servers is what it was. -/
theorem ren_back {tos : List Int} {s r : Nat} (hs : s < 65536) (h : renS tos 0 (mem 16 s) = (r, 0)) :
    r < 65536 ∧ cnt r = cnt s ∧ (∀ i ∈ mem 16 s, i < tos.length ∧ 0 ≤ tos.getD i 0 ∧ tos.getD i 0 < 12) ∧
      (s < 4096 → renS ((backL (fun i => (tos.getD i 0).toNat) (mem 16 s) (List.replicate 12 0)).map Int.ofNat) 0 (mem 16 r) = (s, 0)) := by
  rw [← renL_ofS] at h
  obtain ⟨hL, hin⟩ := ren_ok tos (mem 16 s) 0 (by rw [h])
  obtain ⟨hr, hperm⟩ := of_ok (renL tos (mem 16 s)) 0 (by omega) (by rw [h])
  rw [h] at hr hperm
  rw [mem_zero, List.map_nil, List.nil_append, hL] at hperm
  dsimp only at hr hperm
  obtain ⟨f, hf⟩ : ∃ f : Nat → Nat, f = fun i => (tos.getD i 0).toNat := ⟨_, rfl⟩
  have hfi : ∀ i ∈ mem 16 s, tos.getD i 0 = Int.ofNat (f i) := by
    intro i hi
    have := (hin i hi).2.1
    rw [hf]
    exact (Int.toNat_of_nonneg this).symm
  have hmap : (mem 16 s).map (fun i => tos.getD i 0) = ((mem 16 s).map f).map Int.ofNat := by
    rw [List.map_map]
    exact List.map_congr_left fun i hi => hfi i hi
  rw [hmap] at hperm
  have hp : (mem 16 r).Perm ((mem 16 s).map f) := by
    have := hperm.map Int.toNat
    rw [List.map_map, List.map_map] at this
    have e : (Int.toNat ∘ Int.ofNat) = id := by funext x; rfl
    rw [e, List.map_id, List.map_id] at this
    exact this
  have hnd : ((mem 16 s).map f).Nodup := hp.nodup_iff.1 (mem_nodup 16 r)
  refine ⟨hr, by have := hp.length_eq; rw [List.length_map] at this; exact this, hin, fun hs12 => ?_⟩
  rw [← hf]
  obtain ⟨b, hb⟩ : ∃ b, backL f (mem 16 s) (List.replicate 12 0) = b := ⟨_, rfl⟩
  have hbat : ∀ i ∈ mem 16 s, b[f i]? = some i := by
    intro i hi
    rw [← hb]
    refine back_at f _ _ hnd (fun j hj => ?_) i hi
    rw [List.length_replicate, hf]
    have := (hin j hj).2
    show (tos.getD j 0).toNat < 12
    omega
  rw [hb]
  have hback : ∀ K : List Nat, (∀ j ∈ K, j ∈ (mem 16 s).map f) → renL (b.map Int.ofNat) K = (K.map fun j => b.getD j 0).map Int.ofNat := by
    intro K
    induction K with
    | nil => intro _; rfl
    | cons j K ih =>
      intro hK
      obtain ⟨i, hi, hij⟩ := List.mem_map.1 (hK j (by simp))
      have hbj := hbat i hi
      rw [hij] at hbj
      rw [renL, List.getElem?_map, hbj]
      show Int.ofNat i :: renL (b.map Int.ofNat) K = _
      rw [ih (fun k hk => hK k (by simp [hk])), List.map_cons, List.map_cons, List.getD, hbj]
      rfl
  rw [← renL_ofS, hback _ (fun j hj => hp.mem_iff.1 hj)]
  have hLp : ((mem 16 r).map fun j => b.getD j 0).Perm (mem 16 s) := by
    refine (hp.map _).trans ?_
    rw [List.map_map]
    have : (mem 16 s).map ((fun j => b.getD j 0) ∘ f) = mem 16 s := by
      conv => rhs; rw [← List.map_id (mem 16 s)]
      refine List.map_congr_left fun i hi => ?_
      show b.getD (f i) 0 = i
      rw [List.getD, hbat i hi]
      rfl
    rw [this]
  obtain ⟨K, hK⟩ : ∃ K, ((mem 16 r).map fun j => b.getD j 0) = K := ⟨_, rfl⟩
  rw [hK] at hLp ⊢
  rw [of_mem K 0 (fun i hi => ?_) (hLp.nodup_iff.2 (mem_nodup 16 s)) (fun i _ => by simp)]
  · congr 1
    rw [← fold_mem hs]
    apply Nat.eq_of_testBit_eq
    intro i
    rw [fold_bit, fold_bit]
    congr 1
    rw [decide_eq_decide]
    exact hLp.mem_iff
  · have hi2 := hLp.mem_iff.1 hi
    have := (mem_iff.1 hi2).2
    rcases Nat.lt_or_ge i 12 with h1 | h1
    · exact h1
    · rw [lt_bit (show s < 2 ^ 12 from hs12) h1] at this; cases this
set_option maxRecDepth 100000 in
set_option maxHeartbeats 4000000 in
theorem rrename_any (s : Nat) (A : Option Addr) (n c : Nat) (l : List Int) (w : World) (hs : s < 65536) (hA : Vals w A (is l)) (Hn : Hid (n = l.length)) :
    Calls Tryd.prog 39 #[.int .u16 (s : Int), .slice A n c] w (RetE w (renS l 0 (mem 16 s))) := by
  obtain ⟨L, HL⟩ : ∃ L, Hid (L = renL l (mem 16 s)) := ⟨_, rfl⟩
  obtain ⟨S, HS⟩ : ∃ S, Hid (S = renS l 0 (mem 16 s)) := ⟨_, rfl⟩
  have HSL : Hid (ofS 0 L = S) := by show _ = _; rw [HL.out, HS.out, renL_ofS]
  rw [← HS.out]
  go_enter Tryd.func39, Tryd.ntmps39
  go_wp2_with fail
  refine (rmembers_any s w hs).mono ?_
  rintro e w1 ⟨v, rfl, hown, hu1⟩
  obtain ⟨M, HM⟩ : ∃ M, Hid (M = mem 16 s) := ⟨_, rfl⟩
  have Hm : Hid (cnt s = M.length) := by show _ = _; rw [HM.out]; rfl
  obtain ⟨m, hm⟩ : ∃ m, cnt s = m := ⟨_, rfl⟩
  have hm16 : m ≤ 16 := by rw [← hm]; exact cnt_le s
  rw [hm] at hown Hm
  rw [← HM.out] at hown HL
  clear hm HS
  obtain ⟨A1, c1, rfl, hc1, hV1, _, _⟩ := own_vals hown
  clear hown
  have HV1 := hide hV1
  have HA := hide (hA.up hu1)
  clear hV1 hA
  go_wp2
  go_loopw [6, 8] (fun v6 v8 wr => ∃ (k q : Nat) (ls : List Int), v8 = .int .i64 (k : Int) ∧ k ≤ m ∧ q ≤ k ∧ wr.ownsRow w1.heap.size 3 1 v6 q (is ls) ∧ Up w1 wr ∧ Hid (L = ls ++ renL l (M.drop k))) (fun _ v8 _ => m - (intOf v8).toNat)
  case atStart => exact ⟨0, 0, [], rfl, by omega, by omega, World.ownsRow_nil _ _ _ _, Up.refl _, HL.out⟩
  case round =>
    obtain ⟨k, q, ls, rfl, hk, hq, hown, hup, HX⟩ := hrel
    have hsz := hup.size
    have hlen : ls.length = q := by have := hown.1; rw [is_len] at this; omega
    by_cases hlt : k < m
    · have hk1 : k < M.length := by rw [← Hm.out]; exact hlt
      obtain ⟨i, Hi⟩ : ∃ i, Hid (i = M[k]'hk1) := ⟨_, rfl⟩
      have hv := ns_at hk1
      rw [← Hi.out] at hv
      obtain ⟨ad, hAd, hb, hcell⟩ := (HV1.out.up hup).at_ hv
      subst hAd
      have HX2 : Hid (L = ls ++ match l[i]? with | none => [-1] | some x => x :: renL l (M.drop (k + 1))) := by
        show L = _
        rw [HX.out, drop_at M k hk1, ← Hi.out]
        rfl
      clear hv HX
      by_cases hin : i < n
      · have hi1 : i < l.length := by rw [← Hn.out]; exact hin
        obtain ⟨x, Hx⟩ : ∃ x, Hid (x = l[i]'hi1) := ⟨_, rfl⟩
        have hv2 := is_at hi1
        rw [← Hx.out] at hv2
        obtain ⟨ad2, hAd2, hb2, hcell2⟩ := (HA.out.up hup).at_ hv2
        subst hAd2
        have HX3 : Hid (L = (ls ++ [x]) ++ renL l (M.drop (k + 1))) := by
          show L = _
          rw [HX2.out, List.getElem?_eq_getElem hi1, ← Hx.out, List.append_assoc]
          rfl
        have dn : decide (n ≤ i) = false := decide_eq_false (by omega)
        have hcellA : (wr.alloc (.cells #[.int .i64 x] 3)).heap.size = wr.heap.size + 1 := by simp
        clear hv2 HX2
        go_wp2_with (at_builtin; refine wp_appV rfl _ _ 22 3 rfl w1.heap.size (.int .i64 0) 8 Tryd.underlying22 Tryd.info3 rfl (by decide) _ q _ rfl (hown.alloc _) (some ⟨wr.heap.size, 0, none⟩) 1 1 (is [x]) rfl rfl (is_one _) (vals_one _ _ _) (by omega) (by simp; omega) ?_; intro v1 w3 hown3 hgrow3)
        go_roundw
        case rel => exact ⟨k + 1, q + 1, ls ++ [x], by go_num, by omega, by omega, by rw [is_append]; exact hown3, up_append hup hown hgrow3, HX3.out⟩
        case measure => simp [intOf]; omega
      · have HX3 : Hid (L = ls ++ [-1]) := by
          show L = _
          rw [HX2.out, List.getElem?_eq_none (by rw [← Hn.out]; omega)]
        have dn : decide (n ≤ i) = true := decide_eq_true (by omega)
        go_wp2_with (at_builtin; refine wp_appV rfl _ _ 22 3 rfl w1.heap.size (.int .i64 0) 8 Tryd.underlying22 Tryd.info3 rfl (by decide) _ q _ rfl (hown.alloc _) (some ⟨wr.heap.size, 0, none⟩) 1 1 (is [-1]) rfl rfl (is_one _) (vals_one _ _ _) (by omega) (by simp; omega) ?_; intro v1 w3 hown3 hgrow3; have hup3 := up_append hup hown hgrow3; rw [← is_append, ← HX3.out] at hown3; obtain ⟨A3, c3, rfl, _, hV3, hl3, _⟩ := own_vals hown3)
        have hof := rof_any A3 (q + 1) c3 L w3 hV3 (by show _ = _; rw [is_len] at hl3; exact hl3.symm) (by omega)
        rw [HSL.out] at hof
        refine hof.mono ?_
        rintro e w4 ⟨rfl, hu4⟩
        go_wp2
        go_ret2
        exact ⟨rfl, (hu1.trans hup3).trans hu4⟩
    · obtain rfl : k = m := by omega
      have HX3 : Hid (L = ls) := by show L = _; rw [HX.out, List.drop_eq_nil_of_le (by rw [Hm.out]; omega)]; simp [renL]
      rw [← HX3.out] at hown hlen
      obtain ⟨A3, c3, rfl, _, hV3, hl3, _⟩ := own_vals hown
      have hof := rof_any A3 q c3 L wr hV3 (by show _ = _; exact hlen.symm) (by omega)
      rw [HSL.out] at hof
      clear hown hlen hV3
      go_wp2_with fail
      refine hof.mono ?_
      rintro e w4 ⟨rfl, hu4⟩
      go_wp2
      go_ret2
      exact ⟨rfl, (hu1.trans hup).trans hu4⟩
set_option maxRecDepth 100000 in
/-- make of a row of zeros. -/
theorem wp_mkI {w : World} {ops : Array Oper} {rest : List Oper} {o : Oper} {a : Act} {Q : Exit → Act → World → Prop} (hgd : o.guard = none) (l c : Operand) (hop : o.op = Op.makeSlice 22 l c)
    (base n : Nat) (kl kc : IntKind) (L C : Int) (hl : a.eval l = .int kl L) (hc : a.eval c = .int kc C) (hL : L = (n : Int)) (hC : C = (n : Int)) (hn : n ≤ 1000000) (hb : base ≤ w.heap.size)
    (h : ∀ w', w'.ownsRow base 3 1 (.slice (some ⟨w.heap.size, 0, none⟩) n n) n (ns (List.replicate n 0)) → Up w w' → w.heap.size < w'.heap.size → wpList Tryd.prog ops Q rest (a.put o.dst (.slice (some ⟨w.heap.size, 0, none⟩) n n)) w') :
    wpList Tryd.prog ops Q (o :: rest) a w := by
  obtain ⟨i0, hi, hz0, hz1, hz2⟩ := info_parts Tryd.info3
  refine wpList_make_full w hgd l c 22 hop base 3 i0 (.int .i64 0) 1 Tryd.underlying22 hi hz0 hz1 kl kc L C n hl hc hL hC (by rw [hz2]; omega) (by unfold maxLen; omega) hb fun w' hown hg => ?_
  rw [Nat.mul_one, show (Value.int .i64 0).cells = #[.int .i64 0] from rfl, toList_madeCells_one, show List.replicate n (Value.int .i64 0) = ns (List.replicate n 0) by simp [ns, is]] at hown
  exact h w' hown ((Up.refl w).grown hg (fun k hk => by cases hk)) (World.ownsRow.lt hown _ rfl).2
theorem ns_set (l : List Nat) (j x : Nat) : (ns l).set j (.int .i64 (x : Int)) = ns (l.set j x) := by
  unfold ns is
  rw [List.map_set, List.map_set]
  rfl
theorem back_snoc (f : Nat → Nat) (M : List Nat) (i : Nat) (b : List Nat) : backL f (M ++ [i]) b = (backL f M b).set (f i) i := by
  unfold backL
  rw [List.foldl_append]
  rfl
set_option maxRecDepth 100000 in
set_option maxHeartbeats 8000000 in
theorem renameW (s : Nat) (v : Value) (w : World) (hTab : Tabs w) (hs : s < 65536) (hv : ∃ l, IntsIn w v l) : Calls Tryd.prog 12 #[.int .u16 (s : Int), v] w (RetV w (.bool true)) := by
  obtain ⟨l, A, n, c, rfl, hV0, _, hnl, _, hn63, hnil⟩ := hv
  have HTab := hide hTab
  have HV := hide hV0
  have Hnil := hide hnil
  clear hTab hV0 hnil
  have Hn : Hid (n = l.length) := hnl
  clear hnl
  by_cases h20 : n ≤ 20
  · have d : decide (20 < (n : Int)) = false := decide_eq_false (by omega)
    have f1 := fun w A c hT hA => rename_any s A n c l w hT hs hA Hn
    have f2 := fun w A c hA => rrename_any s A n c l w hs hA Hn
    obtain ⟨p, Hp⟩ : ∃ p, Hid (p = renS l 0 (mem 16 s)) := ⟨_, rfl⟩
    rw [← Hp.out] at f1 f2
    obtain ⟨r, er⟩ := p
    unfold RetE at f1 f2
    dsimp only at f1 f2
    have q1 : ((r : Int) != (r : Int)) = false := by simp
    have q2 : (er != er) = false := by simp
    have q3 : ((r : Int) == (r : Int)) = true := by simp
    have q4 : (er == er) = true := by simp
    go_enter Tryd.func12, Tryd.ntmps12
    go_wp2_with fail
    refine (awake_any w HTab.out).mono ?_
    rintro e1 w1 ⟨rfl, hu1⟩
    go_wp2_with fail
    refine (clone_any A n c l w1 (HV.out.up hu1) Hn Hnil.out (by omega)).mono ?_
    rintro e2 w2 ⟨A2, c2, rfl, hV2, hu2⟩
    replace hu2 := hu1.trans hu2
    clear hu1
    go_wp2_with fail
    refine (f1 w2 A2 c2 (HTab.out.up hu2) hV2).mono ?_
    rintro e3 w3 ⟨rfl, hu3⟩
    replace hu3 := hu2.trans hu3
    clear hV2 hu2 f1
    go_wp2_with fail
    refine (f2 w3 A c (HV.out.up hu3)).mono ?_
    rintro e4 w4 ⟨rfl, hu4⟩
    replace hu4 := hu3.trans hu4
    clear f2 hu3
    by_cases he : er = 0
    · have q5 : (er != 0) = false := by rw [bne_eq_false_iff_eq]; exact he
      obtain ⟨hr, hcn, hin, hback⟩ := ren_back hs (show renS l 0 (mem 16 s) = (r, 0) by rw [← Hp.out, he])
      have HIn := hide hin
      have HB := hide hback
      clear he hin hback Hp
      have hsz4 := hu4.size
      have HTab4 := hide (HTab.out.up hu4)
      go_wp2_with (at_make; refine wp_mkI rfl _ _ rfl w.heap.size 12 _ _ _ _ rfl rfl rfl rfl (by omega) (by omega) ?_; intro w5 hown5 hu5 hlt5)
      refine (rmembers_any s w5 hs).mono ?_
      rintro e6 w6 ⟨v6, rfl, hown6, hu6⟩
      obtain ⟨g, hg⟩ : ∃ g, w4.heap.size = g := ⟨_, rfl⟩
      rw [hg] at hown5 hlt5 ⊢
      have hown5' := own_up hown5 hu6
      have hup6 : Up w w6 := (hu4.trans hu5).trans hu6
      obtain ⟨M, HM⟩ : ∃ M, Hid (M = mem 16 s) := ⟨_, rfl⟩
      have Hm : Hid (cnt s = M.length) := by show _ = _; rw [HM.out]; rfl
      obtain ⟨m, hm⟩ : ∃ m, cnt s = m := ⟨_, rfl⟩
      have hm16 : m ≤ 16 := by rw [← hm]; exact cnt_le s
      have hc1 := fun w => count_any r w hr
      have hc2 := fun w => rcount_any s w hs
      rw [hcn] at hc1
      rw [hm] at hown6 Hm hc1 hc2
      rw [← HM.out] at hown6 HIn HB
      clear hm hcn
      obtain ⟨A6, c6, rfl, _, hV6, _, hN6⟩ := own_vals hown6
      have hN6' : NewB (g + 1) A6 := hN6.mono (by omega)
      obtain ⟨f, hf⟩ : ∃ f : Nat → Nat, f = fun i => (l.getD i 0).toNat := ⟨_, rfl⟩
      rw [← hf] at HB
      have Hf := hide hf
      have hgw : w.heap.size ≤ g := by omega
      clear hf hown5 hown6 hN6 hu4 hu5 hu6 hg
      go_wp2
      go_loopw [59] (fun v wr => ∃ (k : Nat) (b : List Nat), v = .int .i64 (k : Int) ∧ k ≤ m ∧ wr.ownsRow w.heap.size 3 1 (.slice (some ⟨g, 0, none⟩) 12 12) 12 (ns b) ∧ Hid (b = backL f (M.take k) (List.replicate 12 0)) ∧ Up w wr ∧ Vals wr A6 (ns M)) (fun v _ => m - (intOf v).toNat)
      case atStart => exact ⟨0, _, rfl, by omega, hown5', by show _ = _; rw [List.take_zero]; rfl, hup6, hV6⟩
      case round =>
        obtain ⟨k, b, rfl, hk, hown, HBk, hup, hV⟩ := hrel
        have hbl : b.length = 12 := by have := hown.1; rw [ns_len] at this; omega
        by_cases hlt : k < m
        · have hk1 : k < M.length := by rw [← Hm.out]; exact hlt
          obtain ⟨i, Hi⟩ : ∃ i, Hid (i = M[k]'hk1) := ⟨_, rfl⟩
          have hiM : i ∈ M := by rw [Hi.out]; exact List.getElem_mem hk1
          obtain ⟨hil, hi0, hi12⟩ := HIn.out i hiM
          have hv := ns_at hk1
          rw [← Hi.out] at hv
          obtain ⟨ad, hAd, hb, hcell⟩ := hV.at_ hv
          have hv2 := is_get hil
          obtain ⟨j, hj⟩ : ∃ j : Nat, l.getD i 0 = (j : Int) := ⟨(l.getD i 0).toNat, by omega⟩
          rw [hj] at hv2 hi0 hi12
          have hfj : f i = j := by rw [Hf.out]; show (l.getD i 0).toNat = j; rw [hj]; rfl
          obtain ⟨ad2, hAd2, hb2, hcell2⟩ := (HV.out.up hup).at_ hv2
          have hj12 : j < 12 := by omega
          have hil2 : i < n := by rw [Hn.out]; exact hil
          have hjb : j < b.length := by omega
          obtain ⟨z, hz⟩ : ∃ z : Nat, b[j]'hjb = z := ⟨_, rfl⟩
          have hcR := World.ownsRow.cellAt hown j (by omega)
          rw [ns_at hjb, hz] at hcR
          have hfR := World.ownsRow.frozenAt hown j
          obtain ⟨hst, hgr⟩ := World.ownsRow.stored hown j (.int .i64 (i : Int))
          rw [ns_set] at hst
          have hV2 := hV.other hN6' hgr
          have hup2 : Up w (wr.setCell ⟨g, j, none⟩ (.int .i64 (i : Int))) := hup.grown hgr (fun k e => by cases e; exact hgw)
          have HB2 : Hid (b.set j i = backL f (M.take (k + 1)) (List.replicate 12 0)) := by
            show _ = _
            rw [wd_at hk1, back_snoc, ← Hi.out, hfj, HBk.out]
          subst hAd hAd2
          have HST := hide hst
          have HV2 := hide hV2
          clear hv hv2 hV hst hV2 hgr hown hj hfj hi0 hi12 hiM hil hz hjb hbl
          go_wp2
          go_roundw
          case rel => exact ⟨k + 1, b.set j i, by go_num, by omega, HST.out, HB2.out, hup2, HV2.out⟩
          case measure => simp [intOf]; omega
        · obtain rfl : k = m := by omega
          have HB3 : Hid (b = backL f M (List.replicate 12 0)) := by show _ = _; rw [HBk.out, List.take_of_length_le (by rw [Hm.out]; exact Nat.le_refl _)]
          obtain ⟨A9, c9, he9, _, hV9, hl9, _⟩ := own_vals hown
          cases he9
          have q6 : ((k : Int) == (k : Int)) = true := by simp
          clear hV HBk hown
          by_cases h12 : s < 4096
          · have d2 : decide (4096 ≤ (s : Int)) = false := decide_eq_false (by omega)
            have hren := rename_any r (some ⟨g, 0, none⟩) 12 12 (b.map Int.ofNat) wr (HTab.out.up hup) hr hV9 (by show 12 = _; rw [List.length_map]; exact hbl.symm)
            rw [HB3.out, HB.out h12] at hren
            have q7 : ((s : Int) == (s : Int)) = true := by simp
            clear h12 hbl hV9
            go_wp2_with fail
            refine hren.mono ?_
            rintro e9 w9 ⟨rfl, hu9⟩
            go_wp2_with fail
            refine (hc1 w9).mono ?_
            rintro e10 w10 ⟨rfl, hu10⟩
            go_wp2_with fail
            refine (hc2 w10).mono ?_
            rintro e11 w11 ⟨rfl, hu11⟩
            go_wp2
            go_ret
            exact ⟨rfl, ((hup.trans hu9).trans hu10).trans hu11⟩
          · have d2 : decide (4096 ≤ (s : Int)) = true := decide_eq_true (by omega)
            clear h12 hbl hV9
            go_wp2_with fail
            refine (hc1 wr).mono ?_
            rintro e10 w10 ⟨rfl, hu10⟩
            go_wp2_with fail
            refine (hc2 w10).mono ?_
            rintro e11 w11 ⟨rfl, hu11⟩
            go_wp2
            go_ret
            exact ⟨rfl, (hup.trans hu10).trans hu11⟩
    · have q5 : (er != 0) = true := by rw [bne_iff_ne]; exact he
      clear he
      go_wp2
      go_ret
      exact ⟨rfl, hu4⟩
  · have d : decide (20 < (n : Int)) = true := decide_eq_true (by omega)
    clear h20
    go_enter Tryd.func12, Tryd.ntmps12
    go_wp2_with fail
    refine (awake_any w HTab.out).mono ?_
    rintro e1 w1 ⟨rfl, hu1⟩
    go_wp2_with fail
    refine (awake_any w1 (HTab.out.up hu1)).mono ?_
    rintro e2 w2 ⟨rfl, hu2⟩
    go_wp2
    go_ret
    exact ⟨rfl, hu1.trans hu2⟩
end Go.Proofs.YthepjpahabcpkaaDoor
