/- The laws on the sequences of subsets. -/
import Derived.Test.YthepjpahabcpkaaDoorSm
import Derived.Test.YthepjpahabcpkaaDoorSn
namespace Go.Proofs.YthepjpahabcpkaaDoor
open Go.RowKit

theorem sub_iff {a b : Nat} (hb : b < 65536) : sub 16 a b = true ↔ andN a b = 0 := by
  unfold sub
  rw [List.all_eq_true]
  constructor
  · intro h
    apply Nat.eq_of_testBit_eq
    intro i
    rw [andN_bit hb, Nat.zero_testBit]
    by_cases h16 : i < 16
    · cases hai : a.testBit i with
      | false => simp
      | true => rw [h i (mem_iff.2 ⟨h16, hai⟩)]; simp
    · simp [h16]
  · intro h i hi
    have hb2 := andN_bit (a := a) hb i
    rw [h, Nat.zero_testBit, (mem_iff.1 hi).2] at hb2
    simp [(mem_iff.1 hi).1] at hb2
    exact hb2
set_option maxRecDepth 100000 in
theorem within_any (a b : Nat) (w : World) (ha : a < 65536) (hb : b < 65536) : Calls Tryd.prog 55 #[.int .u16 (a : Int), .int .u16 (b : Int)] w fun e w' => e = .returned (.bool (sub 16 a b)) ∧ w' = w := by
  have h := andn16 ha hb
  have hq : (((andN a b : Nat) : Int) == 0) = sub 16 a b := by
    rw [Bool.eq_iff_iff, beq_iff_eq, sub_iff hb]
    omega
  obtain ⟨q, hqe⟩ : ∃ q, sub 16 a b = q := ⟨_, rfl⟩
  rw [hqe] at hq ⊢
  obtain ⟨x, hx⟩ : ∃ x, andN a b = x := ⟨_, rfl⟩
  rw [hx] at h hq
  go_enter Tryd.func55, Tryd.ntmps55
  go_wp2
  go_ret
  exact ⟨rfl, rfl⟩
/-- Is x a subset of s with k members? -/
def isC (s : Nat) (k : Int) (x : Nat) : Bool := sub 16 x s && ((cnt x : Int) == k)
theorem isC_filter (s : Nat) (k : Int) (N : Nat) (hN : N = 2 ^ 16) : (List.range N).filter (isC s k) = choI s k := by
  rw [hN]
  unfold choI isC cnt
  by_cases hk : k < 0
  · rw [if_pos hk, List.filter_eq_nil_iff]
    intro x _
    have : (((mem 16 x).length : Int) == k) = false := by rw [beq_eq_false_iff_ne]; omega
    simp [this]
  · obtain ⟨j, rfl⟩ : ∃ j : Nat, k = j := ⟨k.toNat, by omega⟩
    rw [if_neg hk, Int.toNat_natCast, ← cho_filter s 16 j]
    refine List.filter_congr fun x _ => ?_
    congr 1
    rw [Bool.eq_iff_iff, beq_iff_eq, beq_iff_eq]
    omega
theorem us_snoc (l : List Nat) (x : Nat) : us l ++ us [x] = us (l ++ [x]) := (us_append l [x]).symm
theorem filter_len (p : Nat → Bool) (n : Nat) : ((List.range n).filter p).length ≤ n := Nat.le_trans (List.length_filter_le _ _) (by simp)
set_option maxRecDepth 100000 in
set_option maxHeartbeats 4000000 in
theorem rchoose_any (s : Nat) (k : Int) (w : World) (hs : s < 65536) : Calls Tryd.prog 33 #[.int .u16 (s : Int), .int .i64 k] w fun e w' => ∃ v, e = .returned v ∧ w'.ownsRow w.heap.size 25 1 v (choI s k).length (us (choI s k)) ∧ Up w w' := by
  obtain ⟨L, HL⟩ : ∃ L, Hid (L = choI s k) := ⟨_, rfl⟩
  rw [← HL.out]
  obtain ⟨p, Hp⟩ : ∃ p, Hid (p = isC s k) := ⟨_, rfl⟩
  have HF : Hid (∀ N, N = 65536 → (List.range N).filter p = L) := by
    intro N hN
    rw [Hp.out, HL.out]
    exact isC_filter s k N (by omega)
  go_enter Tryd.func33, Tryd.ntmps33
  go_wp2
  go_loopw [5, 6] (fun v5 v6 wr => ∃ (x n : Nat) (ls : List Nat), v6 = .int .i64 (x : Int) ∧ x ≤ 65536 ∧ n ≤ x ∧ wr.ownsRow w.heap.size 25 1 v5 n (us ls) ∧ Hid (ls = (List.range x).filter p) ∧ Up w wr) (fun _ v6 _ => 65536 - (intOf v6).toNat)
  case atStart => exact ⟨0, 0, [], rfl, by omega, by omega, World.ownsRow_nil _ _ _ _, rfl, Up.refl _⟩
  case round =>
    obtain ⟨x, n, ls, rfl, hx, hnx, hown, HX, hup⟩ := hrel
    have hsz := hup.size
    have hlen : ls.length = n := by have := hown.1; rw [us_len] at this; omega
    by_cases hlt : x < 65536
    · have HX2 : Hid ((List.range (x + 1)).filter p = ls ++ if p x then [x] else []) := by
        show _ = _
        rw [List.range_succ, List.filter_append, HX.out, List.filter_cons, List.filter_nil]
      have hwi := within_any x s wr hlt hs
      have hrc := fun w => rcount_any x w hlt
      have em : (x : Int) % 65536 = (x : Int) := by omega
      have dx : decide ((x : Int) < 65536) = true := decide_eq_true (by omega)
      obtain ⟨b1, hb1⟩ : ∃ b1, sub 16 x s = b1 := ⟨_, rfl⟩
      obtain ⟨m, hm⟩ : ∃ m, cnt x = m := ⟨_, rfl⟩
      have Hpx : Hid (p x = (b1 && ((m : Int) == k))) := by show _ = _; rw [Hp.out, isC, hb1, hm]
      rw [hb1] at hwi
      rw [hm] at hrc
      clear hb1 hm
      have yes : p x = true → Hid (ls ++ [x] = (List.range (x + 1)).filter p) := by
        intro h
        show _ = _
        rw [HX2.out, h]
        rfl
      have no : p x = false → Hid (ls = (List.range (x + 1)).filter p) := by
        intro h
        show _ = _
        rw [HX2.out, h]
        simp
      have Hyes := hide yes
      have Hno := hide no
      clear yes no HX2
      cases b1 with
      | false =>
        have HL2 := Hno.out (by rw [Hpx.out]; rfl)
        clear Hyes Hno Hpx
        go_wp2_with fail
        refine hwi.mono ?_
        rintro e w1 ⟨rfl, rfl⟩
        go_wp2
        go_roundw
        case rel => exact ⟨x + 1, n, ls, by go_num, by omega, by omega, hown, HL2.out, hup⟩
        case measure => simp [intOf]; omega
      | true =>
        cases hmk : ((m : Int) == k) with
        | false =>
          have HL2 := Hno.out (by rw [Hpx.out, hmk]; rfl)
          clear Hyes Hno Hpx
          go_wp2_with fail
          refine hwi.mono ?_
          rintro e w1 ⟨rfl, rfl⟩
          go_wp2_with fail
          refine (hrc w1).mono ?_
          rintro e w2 ⟨rfl, hu2⟩
          have hown2 := own_up hown hu2
          go_wp2
          go_roundw
          case rel => exact ⟨x + 1, n, ls, by go_num, by omega, by omega, hown2, HL2.out, hup.trans hu2⟩
          case measure => simp [intOf]; omega
        | true =>
          have HL2 := Hyes.out (by rw [Hpx.out, hmk]; rfl)
          clear Hyes Hno Hpx
          go_wp2_with fail
          refine hwi.mono ?_
          rintro e w1 ⟨rfl, rfl⟩
          go_wp2_with fail
          refine (hrc w1).mono ?_
          rintro e w2 ⟨rfl, hu2⟩
          have hown2 := own_up hown hu2
          have hup2 := hup.trans hu2
          have hsz2 := hup2.size
          go_wp2_with (at_builtin; refine wp_appV rfl _ _ 44 25 rfl w.heap.size (.int .u16 0) 2 Tryd.underlying44 Tryd.info25 rfl (by decide) _ n _ rfl (hown2.alloc _) (some ⟨w2.heap.size, 0, none⟩) 1 1 (us [x]) rfl rfl (us_one _) (vals_one _ _ _) (by omega) (by simp; omega) ?_; intro v1 w3 hown3 hgrow3)
          go_roundw
          case rel => exact ⟨x + 1, n + 1, ls ++ [x], by go_num, by omega, by omega, by rw [us_append]; exact hown3, HL2.out, up_append hup2 hown2 hgrow3⟩
          case measure => simp [intOf]; omega
    · have h65 : x = 65536 := by omega
      have HE : Hid (L = ls) := by show L = ls; rw [HX.out, HF.out x h65]
      have dx : decide ((x : Int) < 65536) = false := decide_eq_false (by omega)
      clear h65 HX
      go_wp2
      go_ret
      exact ⟨_, rfl, by rw [HE.out, hlen]; exact hown, hup⟩
theorem mem_rev_len (s : Nat) : (mem 16 s).reverse.length = cnt s := by rw [List.length_reverse]; rfl
theorem choI_len {s : Nat} (k : Int) (h : cnt s ≤ 10) : (choI s k).length ≤ 1024 := by
  unfold choI
  split
  · simp
  · have h1 := cho_len 0 (mem 16 s).reverse k.toNat
    rw [mem_rev_len] at h1
    have : 2 ^ cnt s ≤ 2 ^ 10 := Nat.pow_le_pow_right (by omega) h
    omega
/-- How many subsets have less than K members. -/
def tot (l : List Nat) : Nat → Nat
  | 0 => 0
  | K + 1 => tot l K + (cho 0 l K).length
theorem cho_clen (l : List Nat) : ∀ (c k : Nat), (cho c l k).length = (cho 0 l k).length := by
  intro c k
  have := cho_shift c l 0 k
  rw [Nat.or_zero] at this
  rw [this, List.length_map]
theorem tot_cons (g : Nat) (l : List Nat) : ∀ K, tot (g :: l) (K + 1) = tot l (K + 1) + tot l K := by
  intro K
  induction K with
  | zero => simp [tot, cho_zero]
  | succ K ih =>
    rw [tot, ih, cho, List.length_append, cho_clen l (0 ||| 2 ^ g) K]
    simp only [tot]
    omega
theorem tot_all (l : List Nat) : tot l (l.length + 1) = 2 ^ l.length := by
  induction l with
  | nil => rfl
  | cons g l ih =>
    rw [List.length_cons, tot_cons, tot, ih, cho_many 0 l _ (Nat.lt_succ_self _), List.length_nil, Nat.pow_succ]
    omega
theorem subs_len (s k : Nat) : (subs s k).length = tot (mem 16 s).reverse k := by
  induction k with
  | zero => rfl
  | succ k ih =>
    rw [subs_succ, List.length_append, ih]
    unfold choI
    rw [if_neg (by omega), Int.toNat_natCast]
    rfl
theorem subs_all (s : Nat) : (subs s (cnt s + 1)).length = 2 ^ cnt s := by
  have := tot_all (mem 16 s).reverse
  rw [mem_rev_len] at this
  rw [subs_len, this]
theorem subs_small {s : Nat} (h : cnt s ≤ 10) (k : Nat) (hk : k ≤ cnt s + 1) : (subs s k).length ≤ 1024 := by
  obtain ⟨d, hd⟩ : ∃ d, cnt s + 1 = k + d := ⟨cnt s + 1 - k, by omega⟩
  have h1 := (subs_prefix s k d).length_le
  rw [← hd, subs_all] at h1
  have : 2 ^ cnt s ≤ 2 ^ 10 := Nat.pow_le_pow_right (by omega) h
  omega
set_option maxRecDepth 100000 in
set_option maxHeartbeats 4000000 in
theorem rsubsets_any (s : Nat) (w : World) (hs : s < 65536) (h10 : cnt s ≤ 10) : Calls Tryd.prog 31 #[.int .u16 (s : Int)] w fun e w' => ∃ v, e = .returned v ∧ w'.ownsRow w.heap.size 25 1 v (subs s (cnt s + 1)).length (us (subs s (cnt s + 1))) ∧ Up w w' := by
  obtain ⟨L, HL⟩ : ∃ L, Hid (L = subs s (cnt s + 1)) := ⟨_, rfl⟩
  rw [← HL.out]
  have hrc := fun w => rcount_any s w hs
  have hch := fun k w => rchoose_any s k w hs
  have hcl := fun k => choI_len (s := s) k h10
  have hsl := fun k hk => subs_small h10 k hk
  obtain ⟨m, hm⟩ : ∃ m, cnt s = m := ⟨_, rfl⟩
  rw [hm] at hrc HL hsl h10
  have Hsl := hide hsl
  clear hm hsl
  go_enter Tryd.func31, Tryd.ntmps31
  go_wp2
  go_loopw [3, 4] (fun v3 v4 wr => ∃ (k n : Nat) (ls : List Nat), v4 = .int .i64 (k : Int) ∧ k ≤ m + 1 ∧ n ≤ 1024 ∧ wr.ownsRow w.heap.size 25 1 v3 n (us ls) ∧ Hid (ls = subs s k) ∧ Up w wr) (fun _ v4 _ => m + 1 - (intOf v4).toNat)
  case atStart => exact ⟨0, 0, [], rfl, by omega, by omega, World.ownsRow_nil _ _ _ _, rfl, Up.refl _⟩
  case round =>
    obtain ⟨k, n, ls, rfl, hk, hn, hown, HX, hup⟩ := hrel
    have hlen : ls.length = n := by have := hown.1; rw [us_len] at this; omega
    by_cases hlt : k ≤ m
    · have d : decide (k ≤ m) = true := decide_eq_true hlt
      have HX2 : Hid (ls ++ choI s (k : Int) = subs s (k + 1)) := by show _ = _; rw [subs_succ, HX.out]
      have hcl2 := hcl (k : Int)
      have hnew : n + (choI s (k : Int)).length ≤ 1024 := by
        have := Hsl.out (k + 1) (by omega)
        rw [← HX2.out, List.length_append, hlen] at this
        exact this
      obtain ⟨cs, Hcs⟩ : ∃ cs, Hid (cs = choI s (k : Int)) := ⟨_, rfl⟩
      have hch2 := hch (k : Int)
      rw [← Hcs.out] at hcl2 hch2 HX2 hnew
      clear hcl hch HX
      go_wp2_with fail
      refine (hrc wr).mono ?_
      rintro e w1 ⟨rfl, hu1⟩
      have hown1 := own_up hown hu1
      go_wp2_with fail
      refine (hch2 w1).mono ?_
      rintro e w2 ⟨v, rfl, hownc, hu2⟩
      have hown2 := own_up hown1 hu2
      have hup2 := (hup.trans hu1).trans hu2
      have hsz2 := hup2.size
      obtain ⟨A2, c2, rfl, hc2, hV2, _, _⟩ := own_vals hownc
      obtain ⟨q, hq⟩ : ∃ q, cs.length = q := ⟨_, rfl⟩
      rw [hq] at hcl2 hnew
      go_wp2_with (at_builtin; refine wp_appV rfl _ _ 44 25 rfl w.heap.size (.int .u16 0) 2 Tryd.underlying44 Tryd.info25 rfl (by decide) _ n _ rfl hown2 A2 q c2 (us cs) rfl ((us_len _).trans hq) (us_one _) hV2 (by omega) (by omega) ?_; intro v1 w3 hown3 hgrow3)
      go_roundw
      case rel => exact ⟨k + 1, n + q, ls ++ cs, by go_num, by omega, by omega, by rw [us_append]; exact hown3, HX2.out, hup2.grown hgrow3 (fun j hj => (hown2.lt j hj).1)⟩
      case measure => simp [intOf]; omega
    · obtain rfl : k = m + 1 := by omega
      have HE : Hid (L = ls) := by show L = ls; rw [HX.out, HL.out]
      have d : decide (m + 1 ≤ m) = false := decide_eq_false (by omega)
      go_wp2_with fail
      refine (hrc wr).mono ?_
      rintro e w1 ⟨rfl, hu1⟩
      have hown1 := own_up hown hu1
      go_wp2
      go_ret
      exact ⟨_, rfl, by rw [HE.out, hlen]; exact hown1, hup.trans hu1⟩
theorem pow64 {n : Nat} (h : n < 60) : IntKind.i64.wrap ((2 : Int) ^ n) = ((2 ^ n : Nat) : Int) := by
  have e : (2 : Int) ^ n = ((2 ^ n : Nat) : Int) := by rw [Int.natCast_pow]; rfl
  have : 2 ^ n < 2 ^ 60 := Nat.pow_lt_pow_right (by omega) h
  rw [e]
  obtain ⟨p, hp⟩ : ∃ p, 2 ^ n = p := ⟨_, rfl⟩
  rw [hp] at this ⊢
  simp [IntKind.wrap, IntKind.bits, IntKind.signed]
  omega
set_option maxRecDepth 100000 in
set_option maxHeartbeats 4000000 in
theorem chooseW (s : Nat) (k : Int) (w : World) (hTab : Tabs w) (hs : s < 65536) : Calls Tryd.prog 8 #[.int .u16 (s : Int), .int .i64 k] w (RetV w (.bool true)) := by
  have HTab := hide hTab
  clear hTab
  have hrc := fun w => rcount_any s w hs
  by_cases h10 : cnt s ≤ 10
  · have hcl := choI_len (s := s) k h10
    have hch := fun w => rchoose_any s k w hs
    obtain ⟨m, hm⟩ : ∃ m, cnt s = m := ⟨_, rfl⟩
    rw [hm] at hrc h10
    have d : decide (10 < (m : Int)) = false := decide_eq_false (by omega)
    clear hm
    go_enter Tryd.func8, Tryd.ntmps8
    go_wp2_with fail
    refine (awake_any w HTab.out).mono ?_
    rintro e1 w1 ⟨rfl, hu1⟩
    go_wp2_with fail
    refine (hrc w1).mono ?_
    rintro e2 w2 ⟨rfl, hu2⟩
    replace hu2 := hu1.trans hu2
    clear hu1
    go_wp2_with fail
    refine (callsIn_wide.1 (choose_any s k w2)).mono ?_
    rintro e3 w3 ⟨rfl, hw3⟩
    have hs3 : w3.heap.size = w2.heap.size + 2 := by rw [hw3]; simp
    have bx1 : Boxed w3 w2.heap.size 25 (.int .u16 (s : Int)) := by rw [hw3]; exact (Boxed.new w2 _ _).alloc _
    have bx2 : Boxed w3 (w2.heap.size + 1) 3 (.int .i64 k) := by
      rw [hw3]
      have := Boxed.new (w2.alloc (.cells #[.int .u16 (s : Int)] 25)) 3 (.int .i64 k)
      rwa [World.size_alloc] at this
    have hu3 : Up w w3 := by rw [hw3]; exact (hu2.alloc _).alloc _
    have hcol := collect_sets _ _ (enters_of Tryd.func53 (by kernel_rfl) rfl) (choI s k) w3 (by omega) (choose_seq w2.heap.size (w2.heap.size + 1) s w3.heap.size k w3 hs (Nat.le_refl _) bx1 bx2)
    obtain ⟨L, HL⟩ : ∃ L, Hid (L = choI s k) := ⟨_, rfl⟩
    rw [← HL.out] at hcol hch hcl
    obtain ⟨n, hn⟩ : ∃ n, L.length = n := ⟨_, rfl⟩
    have Hn : Hid (n = L.length) := hn.symm
    rw [hn] at hcol hch hcl
    clear hw3 bx1 bx2 hn hu2
    go_wp2_with fail
    refine hcol.mono ?_
    rintro e4 w4 ⟨v4, rfl, hown4, hu4⟩
    clear hcol
    go_wp2_with fail
    refine (hch w4).mono ?_
    rintro e5 w5 ⟨v5, rfl, hown5, hu5⟩
    have hown4' := own_up hown4 hu5
    obtain ⟨A4, c4, rfl, _, hV4, _, _⟩ := own_vals hown4'
    obtain ⟨A5, c5, rfl, _, hV5, _, _⟩ := own_vals hown5
    have hs5 := same_any A4 A5 n c4 c5 L w5 hV4 hV5 Hn (by omega)
    clear hown4 hown4' hown5 hV4 hV5
    go_wp2_with fail
    refine hs5.mono ?_
    rintro e6 w6 ⟨rfl, hu6⟩
    go_wp2
    go_ret
    exact ⟨rfl, ((hu3.trans hu4).trans hu5).trans hu6⟩
  · obtain ⟨m, hm⟩ : ∃ m, cnt s = m := ⟨_, rfl⟩
    rw [hm] at hrc h10
    have d : decide (10 < (m : Int)) = true := decide_eq_true (by omega)
    clear hm h10
    go_enter Tryd.func8, Tryd.ntmps8
    go_wp2_with fail
    refine (awake_any w HTab.out).mono ?_
    rintro e1 w1 ⟨rfl, hu1⟩
    go_wp2_with fail
    refine (hrc w1).mono ?_
    rintro e2 w2 ⟨rfl, hu2⟩
    go_wp2_with fail
    refine (awake_any w2 (HTab.out.up (hu1.trans hu2))).mono ?_
    rintro e3 w3 ⟨rfl, hu3⟩
    go_wp2
    go_ret
    exact ⟨rfl, (hu1.trans hu2).trans hu3⟩
set_option maxRecDepth 100000 in
set_option maxHeartbeats 4000000 in
theorem subsetsW (s : Nat) (w : World) (hTab : Tabs w) (hs : s < 65536) : Calls Tryd.prog 7 #[.int .u16 (s : Int)] w (RetV w (.bool true)) := by
  have HTab := hide hTab
  clear hTab
  have hrc := fun w => rcount_any s w hs
  by_cases h8 : cnt s ≤ 8
  · have hsl := subs_small (s := s) (by omega) (cnt s + 1) (Nat.le_refl _)
    have hall := subs_all s
    have hrs := fun w => rsubsets_any s w hs (by omega)
    have hcol := fun w B hB hBs => collect_subsets s B w hs (by omega) hB hBs
    obtain ⟨L, HL⟩ : ∃ L, Hid (L = subs s (cnt s + 1)) := ⟨_, rfl⟩
    rw [← HL.out] at hcol hrs hsl hall
    obtain ⟨m, hm⟩ : ∃ m, cnt s = m := ⟨_, rfl⟩
    rw [hm] at hrc h8 hall
    obtain ⟨n, hn⟩ : ∃ n, L.length = n := ⟨_, rfl⟩
    have Hn : Hid (n = L.length) := hn.symm
    rw [hn] at hcol hrs hsl hall
    have hp := pow64 (n := m) (by omega)
    rw [← hall] at hp
    have d : decide (8 < (m : Int)) = false := decide_eq_false (by omega)
    have q : ((n : Int) == (n : Int)) = true := by simp
    clear hm hn hall
    go_enter Tryd.func7, Tryd.ntmps7
    go_wp2_with fail
    refine (awake_any w HTab.out).mono ?_
    rintro e1 w1 ⟨rfl, hu1⟩
    go_wp2_with fail
    refine (hrc w1).mono ?_
    rintro e2 w2 ⟨rfl, hu2⟩
    replace hu2 := hu1.trans hu2
    clear hu1
    go_wp2_with fail
    refine (callsIn_wide.1 (subsets_any s w2)).mono ?_
    rintro e3 w3 ⟨rfl, rfl⟩
    go_wp2_with fail
    refine (hcol _ w2.heap.size (by simp) (Boxed.new _ _ _)).mono ?_
    rintro e4 w4 ⟨v4, rfl, hown4, hu4⟩
    replace hu4 := hu2.trans (up_alloc_up hu4)
    obtain ⟨A4, c4, rfl, _, hV4, _, _⟩ := own_vals hown4
    clear hcol hown4 hu2
    go_wp2_with fail
    refine (hrc w4).mono ?_
    rintro e5 w5 ⟨rfl, hu5⟩
    go_wp2_with fail
    refine (hrs w5).mono ?_
    rintro e6 w6 ⟨v6, rfl, hown6, hu6⟩
    obtain ⟨A6, c6, rfl, _, hV6, _, _⟩ := own_vals hown6
    have hs5 := same_any A4 A6 n c4 c6 L w6 (hV4.up (hu5.trans hu6)) hV6 Hn (by omega)
    clear hown6 hV4 hV6
    go_wp2_with fail
    refine hs5.mono ?_
    rintro e7 w7 ⟨rfl, hu7⟩
    go_wp2
    go_ret
    exact ⟨rfl, ((hu4.trans hu5).trans hu6).trans hu7⟩
  · obtain ⟨m, hm⟩ : ∃ m, cnt s = m := ⟨_, rfl⟩
    rw [hm] at hrc h8
    have d : decide (8 < (m : Int)) = true := decide_eq_true (by omega)
    clear hm h8
    go_enter Tryd.func7, Tryd.ntmps7
    go_wp2_with fail
    refine (awake_any w HTab.out).mono ?_
    rintro e1 w1 ⟨rfl, hu1⟩
    go_wp2_with fail
    refine (hrc w1).mono ?_
    rintro e2 w2 ⟨rfl, hu2⟩
    go_wp2_with fail
    refine (awake_any w2 (HTab.out.up (hu1.trans hu2))).mono ?_
    rintro e3 w3 ⟨rfl, hu3⟩
    go_wp2
    go_ret
    exact ⟨rfl, (hu1.trans hu2).trans hu3⟩
end Go.Proofs.YthepjpahabcpkaaDoor
