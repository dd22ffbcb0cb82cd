/- The law on the set of some numbers. -/
import Derived.Test.YthepjpahabcpkaaDoorSo
import Derived.Test.YthepjpahabcpkaaDoorZ
import Derived.Sort.OwnSortedInts
namespace Go.Proofs.YthepjpahabcpkaaDoor
open Go.RowKit Go.Shelf Go.Sort

/-- What returns a copy. -/
def RetCl (w : World) (n : Nat) (l : List Value) (e : Ending) (w' : World) : Prop := ∃ A c, e = .returned (.slice A n c) ∧ Vals w' A l ∧ Up w w'
set_option maxRecDepth 100000 in
set_option maxHeartbeats 2000000 in
/-- A copy of a list that came in. -/
theorem clone_any (A : Option Addr) (n c : Nat) (l : List Int) (w : World) (hA : Vals w A (is l)) (Hn : Hid (n = l.length)) (hz : A = none → n = 0 ∧ c = 0) (hn : n ≤ 900000) :
    Calls Tryd.prog 15 #[.slice A n c] w (RetCl w n (is l)) := by
  have hq : ∀ (w : World) (a : Option Addr) (n c n' c' : Nat), (binOp .eql 22 (.slice a n c) (.slice none n' c')).run Tryd.prog w = .ok (.bool a.isNone) w := fun w a n c n' c' => Lib.run_eql_slice_nil w _ _ a n c n' c' Tryd.underlying22
  rcases A with _ | ad
  · obtain ⟨rfl, rfl⟩ := hz rfl
    go_enter Tryd.func15, Tryd.ntmps15
    go_wp2
    go_ret
    exact ⟨none, 0, rfl, hA, Up.refl w⟩
  · clear hz
    have hl : (is l).length = n := by rw [is_len, ← Hn.out]
    go_enter Tryd.func15, Tryd.ntmps15
    go_wp2_with (at_builtin; refine wp_appV rfl _ _ 22 3 rfl w.heap.size (.int .i64 0) 8 Tryd.underlying22 Tryd.info3 rfl (by decide) _ 0 _ rfl (World.ownsRow_made w #[] 0 (Nat.le_refl _) (Nat.zero_le _) rfl) (some ad) n c (is l) rfl hl (is_one _) (hA.up ((Up.refl w).alloc _)) (by omega) (by simp) ?_; intro v1 w1 hown1 hgrow1; obtain ⟨A1, c1, rfl, hc1, hv1, hl1, _⟩ := own_vals hown1)
    go_ret
    exact ⟨A1, c1, rfl, hv1, ((Up.refl w).alloc _).grown hgrow1 (fun k hk => by simp [Value.ownBlock, Act.eval] at hk; omega)⟩
/-- The sequence of a slice's values. -/
theorem values_seq (Bx n c n₀ : Nat) (A : Option Addr) (l : List Int) (w : World) (hb : ∀ ad, A = some ad → ad.block < n₀ ∨ n = 0) (hA : Vals w A (is l)) (Hn : Hid (n = l.length)) (hn : n ≤ 900000) (hBx : Boxed w Bx 22 (.slice A n c)) :
    SeqO Tryd.prog 45 #[.pointer (some ⟨Bx, 0, none⟩)] inE n₀ 3 l w := by
  intro l2 J Jx W hW hJ hJx hY h0
  have b1 : Boxed W Bx 22 (.slice A n c) := (hW.block Bx hBx.lt).trans hBx
  have c1 := b1.cell
  have hV : Vals W A (is l) := hA.up hW
  refine callsIn_of_wp Tryd.func45 rfl trivial ?_ rfl
  simp only [Tryd.ntmps45, List.size_toArray, List.length_cons, List.length_nil, Nat.reduceAdd, Nat.reduceSub, Array.replicate_succ, Array.replicate_zero, List.push_toArray, List.append_toArray, List.nil_append, List.cons_append]
  gi_wp2
  gi_loopw [7] (fun v wr => ∃ k : Nat, v = .int .i64 (k : Int) ∧ k ≤ n ∧ J (l.take k) wr ∧ Vals wr A (is l)) (fun v _ => n - (intOf v).toNat)
  case atStart => exact ⟨0, rfl, by omega, by rw [List.take_zero]; exact h0, hV⟩
  case round =>
    obtain ⟨k, rfl, hk, hj, hv⟩ := hrel
    by_cases hlt : k < n
    · have hk1 : k < l.length := by rw [← Hn.out]; exact hlt
      obtain ⟨x, hx⟩ : ∃ x, l[k]'hk1 = x := ⟨_, rfl⟩
      have hvx := is_at hk1
      rw [hx] at hvx
      obtain ⟨ad, hAd, hbl, hcell⟩ := hv.at_ hvx
      subst hAd
      have htk : l.take (k + 1) = l.take k ++ [x] := by rw [List.take_add_one, List.getElem?_eq_getElem hk1, hx]; rfl
      have hpre : l.take k ++ [x] <+: l := by rw [← htk]; exact List.take_prefix _ _
      obtain ⟨fn, tmps, assign, body, hy, hR⟩ := hY (l.take k) x wr hj hpre
      dsimp only [inE] at hy
      have hn0 : ad.block < n₀ := by rcases hb ad rfl with h | h <;> omega
      clear hvx hx
      gi_wp2_with fail
      refine ⟨rfl, hR.mono ?_⟩
      rintro e W3 (⟨rfl, hj3, hk3⟩ | ⟨rfl, hx3, hk3⟩)
      · have hv3 : Vals W3 (some ad) (is l) := by
          rcases hv with h | ⟨ad', he, hb', hc'⟩
          · exact Or.inl h
          · injection he with he
            subst he
            exact Or.inr ⟨_, rfl, Nat.lt_of_lt_of_le hb' hk3.size, fun j y hy2 => (hk3.low.cell (by rw [addBlock]; exact hn0)).trans (hc' j y hy2)⟩
        gi_wp2
        go_roundw
        case rel => exact ⟨k + 1, by go_num, by omega, by rw [htk]; exact hj3, hv3⟩
        case measure => simp [intOf]; omega
      · gi_wp2
        refine bodyPost_ret (results_none rfl _ _ _) rfl ?_
        exact ⟨⟨_, rfl⟩, .inr ⟨_, hpre, hx3⟩⟩
    · obtain rfl : k = n := by omega
      rw [List.take_of_length_le (by rw [Hn.out]; exact Nat.le_refl _)] at hj
      gi_wp2
      go_end0
      exact ⟨⟨_, rfl⟩, .inl hj⟩
set_option maxRecDepth 100000 in
theorem values_any (A : Option Addr) (n c : Nat) (w : World) : CallsIn Fence.wide 0 Tryd.prog 18 #[.slice A n c] w fun e w' =>
    e = .returned (.func (.func 45) #[] #[.pointer (some ⟨w.heap.size, 0, none⟩)]) ∧ w' = w.alloc (.cells #[.slice A n c] 22) := by
  refine callsIn_of_wp Tryd.func18 rfl trivial ?_ rfl
  simp only [Tryd.ntmps18, List.size_toArray, List.length_cons, List.length_nil, Nat.reduceAdd, Nat.reduceSub, Array.replicate_succ, Array.replicate_zero, List.push_toArray, List.append_toArray, List.nil_append, List.cons_append]
  gi_wp2
  go_ret
  exact ⟨rfl, rfl⟩
set_option maxRecDepth 100000 in
set_option maxHeartbeats 2000000 in
theorem sorted_any (gf : Nat) (lb : Array Value) (eg : ∀ args w, (callFunc gf args).run Tryd.prog w = .ok (.enter gf args) w) (xs : List Int) (w : World) (hlen : xs.length ≤ 1000000)
    (hseq : SeqO Tryd.prog gf lb inE w.heap.size 3 xs w) :
    Calls Tryd.prog 17 #[.func (.func gf) #[] lb] w fun e w' => ∃ v, e = .returned v ∧ w'.ownsRow w.heap.size 3 1 v xs.length (is (xs.mergeSort fun x y => decide (x ≤ y))) ∧ Up w w' := by
  have hcol := collect_ints gf lb eg xs w hlen hseq
  go_enter Tryd.func17, Tryd.ntmps17
  go_wp2_with fail
  refine hcol.mono ?_
  rintro e w1 ⟨v, rfl, hrow, hup⟩
  rcases hrow.2 with ⟨rfl, hz⟩ | ⟨g, cap, cur, rfl, hbase, hgb, r1, r2, r3, r4⟩
  · have hxs : xs = [] := List.eq_nil_of_length_eq_zero hz
    subst hxs
    go_wp2_with fail
    refine (Tryd.slices_Sort_int_none none 0 w1).mono ?_
    rintro e w2 ⟨rfl, rfl⟩
    go_wp2
    go_ret
    exact ⟨_, rfl, by simpa using hrow, hup⟩
  · have hgl : g < w1.heap.size := (Array.getElem?_eq_some_iff.1 hgb).1
    have hH : Holds (Value.int .i64) w1 g 0 xs.toArray := holds_of_blockI hgb (by simpa [is] using r4)
    have hS := Tryd.slices_Sort_int g 0 cap xs w1 hH hgl (by omega)
    have R1 := hide r1
    have R2 := hide r2
    have R3 := hide r3
    have HG := hide hgb
    clear hrow r1 r2 r3 r4 hgb hH
    have HS := hide hS
    clear hS
    go_wp2_with fail
    refine HS.out.mono ?_
    rintro e w2 ⟨rfl, nn, os, rfl⟩
    have hfin := ownsRow_sortedI (w := w1) (n := nn) (os := os) (ss := xs) (ts := xs.mergeSort fun x y => decide (x ≤ y)) (by simp) hbase HG.out R1.out R2.out R3.out
    have hgr := grownBy_sortedI (w := w1) (g := g) (n := nn) (os := os) (xs.mergeSort fun x y => decide (x ≤ y)).toArray
    obtain ⟨w2, hw2⟩ : ∃ w2, grow (putRow (Value.int .i64) (Sort.ahead w1 nn) g 0 (xs.mergeSort fun x y => decide (x ≤ y)).toArray) os = w2 := ⟨_, rfl⟩
    rw [hw2] at hfin hgr ⊢
    clear hw2 HS
    have HF := hide hfin
    clear hfin
    go_wp2
    go_ret
    exact ⟨_, rfl, HF.out, hup.grown hgr (fun k e => by cases e; exact hbase)⟩
theorem perm_or {x i : Nat} (hi : i < 16) (hb : x.testBit i = false) : (mem 16 (x ||| 2 ^ i)).Perm (i :: mem 16 x) := by
  have hd : (mem 16 x).Nodup := mem_nodup 16 x
  refine (List.perm_ext_iff_of_nodup (mem_nodup 16 _) (List.nodup_cons.2 ⟨fun h => Bool.noConfusion (((mem_iff.1 h).2.symm.trans hb)), hd⟩)).2 fun j => ?_
  rw [mem_iff, List.mem_cons, mem_iff, Nat.testBit_or, Nat.testBit_two_pow, Bool.or_eq_true, decide_eq_true_eq]
  constructor
  · rintro ⟨h1, h2 | h2⟩
    · exact .inr ⟨h1, h2⟩
    · exact .inl h2.symm
  · rintro (h | ⟨h1, h2⟩)
    · subst h; exact ⟨hi, .inr rfl⟩
    · exact ⟨h1, .inl h2⟩
theorem of_ok : ∀ (l : List Int) (acc : Nat), acc < 2 ^ 16 → (ofS acc l).2 = 0 → (ofS acc l).1 < 2 ^ 16 ∧ ((mem 16 (ofS acc l).1).map Int.ofNat).Perm ((mem 16 acc).map Int.ofNat ++ l) := by
  intro l
  induction l with
  | nil => intro acc ha _; exact ⟨ha, by simp [ofS]⟩
  | cons i l ih =>
    intro acc ha h
    rw [ofS] at h ⊢
    by_cases h0 : (addS acc i).2 = 0
    · rw [if_pos h0] at h ⊢
      have hlt : (addS acc i).1 < 2 ^ 16 := addS_lt (by omega) ha
      obtain ⟨h1, h2⟩ := ih _ hlt h
      refine ⟨h1, h2.trans ?_⟩
      unfold addS at h0 ⊢
      by_cases hr : i < 0 ∨ 12 ≤ i
      · rw [if_pos hr] at h0; simp at h0
      · rw [if_neg hr] at h0 ⊢
        by_cases hb : acc.testBit i.toNat = true
        · rw [if_pos hb] at h0; simp at h0
        · rw [if_neg hb]
          have hp := (perm_or (x := acc) (i := i.toNat) (by omega) (Bool.eq_false_iff.2 hb)).map Int.ofNat
          have hi : Int.ofNat i.toNat = i := Int.toNat_of_nonneg (by omega)
          rw [List.map_cons, hi] at hp
          refine (hp.append_right l).trans ?_
          rw [List.cons_append]
          exact List.perm_middle.symm
    · rw [if_neg h0] at h
      exact absurd h h0
theorem of_sorted {l : List Int} {s : Nat} (h : ofS 0 l = (s, 0)) : s < 65536 ∧ (l.mergeSort fun x y => decide (x ≤ y)) = (mem 16 s).map Int.ofNat ∧ cnt s = l.length := by
  obtain ⟨h1, h2⟩ := of_ok l 0 (by omega) (by rw [h])
  rw [h] at h1 h2
  rw [mem_zero, List.map_nil, List.nil_append] at h2
  dsimp only at h1 h2
  refine ⟨h1, ?_, by have := h2.length_eq; rw [List.length_map] at this; exact this⟩
  refine List.Perm.eq_of_pairwise (le := fun x y => x ≤ y) ?_ ?_ ?_ ((List.mergeSort_perm _ _).trans h2.symm)
  · intro a b _ _ hab hba
    omega
  · have := List.pairwise_mergeSort (le := fun x y : Int => decide (x ≤ y)) (by intro a b c; simp; omega) (by intro a b; simp; omega) l
    exact this.imp (by simp)
  · rw [List.pairwise_map]
    exact (mem_sorted 16 s).imp fun h => by simpa using Nat.le_of_lt h
set_option maxRecDepth 100000 in
set_option maxHeartbeats 4000000 in
theorem setOfW (v : Value) (w : World) (hTab : Tabs w) (hv : ∃ l, IntsIn w v l) : Calls Tryd.prog 3 #[v] w (RetV w (.bool true)) := by
  obtain ⟨l, A, n, c, rfl, hV0, _, hnl, _, hn63, hnil⟩ := hv
  have HTab := hide hTab
  have HV := hide hV0
  have Hnil := hide hnil
  clear hTab hV0 hnil
  have Hn : Hid (n = l.length) := hnl
  clear hnl
  by_cases h30 : n ≤ 30
  · have d : decide (30 < (n : Int)) = false := decide_eq_false (by omega)
    have f1 := fun w A c hA => of_any A n c l w hA Hn (by omega)
    have f2 := fun w A c hA => rof_any A n c l w hA Hn (by omega)
    obtain ⟨p, Hp⟩ : ∃ p, Hid (p = ofS 0 l) := ⟨_, rfl⟩
    rw [← Hp.out] at f1 f2
    obtain ⟨s, er⟩ := p
    unfold RetE at f1 f2
    dsimp only at f1 f2
    go_enter Tryd.func3, Tryd.ntmps3
    go_wp2_with fail
    refine (awake_any w HTab.out).mono ?_
    rintro e1 w1 ⟨rfl, hu1⟩
    go_wp2_with fail
    refine (clone_any A n c l w1 (HV.out.up hu1) Hn Hnil.out (by omega)).mono ?_
    rintro e2 w2 ⟨A2, c2, rfl, hV2, hu2⟩
    go_wp2_with fail
    refine (f1 w2 A2 c2 hV2).mono ?_
    rintro e3 w3 ⟨rfl, hu3⟩
    replace hu3 := (hu1.trans hu2).trans hu3
    clear hV2 hu1 hu2
    go_wp2_with fail
    refine (f2 w3 A c (HV.out.up hu3)).mono ?_
    rintro e4 w4 ⟨rfl, hu4⟩
    replace hu4 := hu3.trans hu4
    clear f1 f2 hu3
    have q1 : ((s : Int) != (s : Int)) = false := by simp
    have q2 : (er != er) = false := by simp
    have q3 : ((s : Int) == (s : Int)) = true := by simp
    have q4 : (er == er) = true := by simp
    by_cases he : er = 0
    · have q5 : (er != 0) = false := by rw [bne_eq_false_iff_eq]; exact he
      obtain ⟨hs, hso, hcn⟩ := of_sorted (l := l) (s := s) (by rw [← Hp.out, he])
      have HS := hide hso
      have HC := hide hcn
      clear he hso hcn
      go_wp2_with fail
      refine (callsIn_wide.1 (values_any A n c w4)).mono ?_
      rintro e5 w5 ⟨rfl, rfl⟩
      have hV4 := HV.out.up hu4
      have hblk : ∀ ad, A = some ad → ad.block < (w4.alloc (.cells #[.slice A n c] 22)).heap.size ∨ n = 0 := by
        intro ad hA
        rcases hV4 with h | ⟨ad', he, hb', _⟩
        · right
          have := congrArg List.length h
          rw [is_len] at this
          rw [Hn.out]
          exact this
        · left
          rw [hA] at he
          cases he
          simp
          omega
      have hsort := sorted_any _ _ (enters_of Tryd.func45 (by kernel_rfl) rfl) l (w4.alloc (.cells #[.slice A n c] 22)) (by rw [← Hn.out]; omega)
        (values_seq w4.heap.size n c _ A l _ hblk (hV4.up ((Up.refl _).alloc _)) Hn (by omega) (Boxed.new _ _ _))
      rw [HS.out, ← Hn.out] at hsort
      have hcn : cnt s = n := by rw [HC.out, Hn.out]
      have hmem := fun w hT => members_any s w hT hs
      have hcount := fun w => count_any s w hs
      rw [hcn] at hmem hcount
      have q6 : ((n : Int) == (n : Int)) = true := by simp
      clear HS HC hblk hV4 hcn
      go_wp2_with fail
      refine hsort.mono ?_
      clear hsort
      rintro e6 w6 ⟨v6, rfl, hown6, hu6⟩
      replace hu6 := hu4.trans (up_alloc_up hu6)
      clear hu4
      go_wp2_with fail
      refine (hmem w6 (HTab.out.up hu6)).mono ?_
      rintro e7 w7 ⟨v7, rfl, hown7, hu7⟩
      go_wp2_with fail
      refine (eq_own _ _ n v7 v6 ((mem 16 s).map Int.ofNat) w7 hown7 (own_up hown6 hu7) (by omega)).mono ?_
      rintro e8 w8 ⟨rfl, hu8⟩
      clear hown6 hown7
      go_wp2_with fail
      refine (hcount w8).mono ?_
      rintro e9 w9 ⟨rfl, hu9⟩
      go_wp2
      go_ret
      exact ⟨rfl, ((hu6.trans hu7).trans hu8).trans hu9⟩
    · have q5 : (er != 0) = true := by rw [bne_iff_ne]; exact he
      clear he
      go_wp2
      go_ret
      exact ⟨rfl, hu4⟩
  · have d : decide (30 < (n : Int)) = true := decide_eq_true (by omega)
    clear h30
    go_enter Tryd.func3, Tryd.ntmps3
    go_wp2_with fail
    refine (awake_any w HTab.out).mono ?_
    rintro e1 w1 ⟨rfl, hu1⟩
    go_wp2_with fail
    refine (awake_any w1 (HTab.out.up hu1)).mono ?_
    rintro e2 w2 ⟨rfl, hu2⟩
    go_wp2
    go_ret
    exact ⟨rfl, hu1.trans hu2⟩
end Go.Proofs.YthepjpahabcpkaaDoor
