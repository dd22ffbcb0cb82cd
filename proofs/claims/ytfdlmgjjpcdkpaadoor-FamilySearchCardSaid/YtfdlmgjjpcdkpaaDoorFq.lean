/- Walks: small predicates on sets, and what a list accepts, by both. -/
import Derived.Test.YtfdlmgjjpcdkpaaDoorSe
import Derived.Test.YtfdlmgjjpcdkpaaDoorFp
namespace Go.Proofs.YtfdlmgjjpcdkpaaDoor
open Go.RowKit

theorem andn16 {a b : Nat} (ha : a < 65536) (hb : b < 65536) : bits .andNot .u16 (a : Int) (b : Int) = ((andN a b : Nat) : Int) := by
  show IntKind.u16.wrap ((BitVec.ofInt 16 (a : Int) &&& ~~~BitVec.ofInt 16 (b : Int)).toNat : Int) = _
  rw [BitVec.toNat_and, BitVec.toNat_not, ofInt16, ofInt16, wrap16, Nat.mod_eq_of_lt (show a < 2 ^ 16 from ha), Nat.mod_eq_of_lt (show b < 2 ^ 16 from hb)]
  show ((a &&& (65535 - b) : Nat) : Int) % 65536 = _
  unfold andN
  have : a &&& (65535 - b) ≤ a := Nat.and_le_left
  omega
theorem us_at {l : List Nat} {k : Nat} (h : k < l.length) : (us l)[k]? = some (.int .u16 ((l[k]'h : Nat) : Int)) := by simp [us, sv, h]
theorem ns_at {l : List Nat} {k : Nat} (h : k < l.length) : (ns l)[k]? = some (.int .i64 ((l[k]'h : Nat) : Int)) := by simp [ns, is, h]
theorem Vals.other {w w' : World} {A : Option Addr} {l : List Value} {g : Nat} (h : Vals w A l) (hn : NewB (g + 1) A) (hg : w.grownBy w' (some g)) : Vals w' A l := by
  rcases h with rfl | ⟨ad, rfl, hb, hc⟩
  · exact Or.inl rfl
  · have hg1 := hn ad rfl
    refine Or.inr ⟨ad, rfl, Nat.lt_of_lt_of_le hb hg.size, fun j x hx => ?_⟩
    rw [← hc j x hx]
    unfold World.cell?
    rw [addBlock, hg.block ad.block hb (fun e => by cases e; omega)]
theorem own_cell {w : World} {base g n c : Nat} {e : TypeId} {l : List Value} (h : w.ownsRow base e 1 (.slice (some ⟨g, 0, none⟩) n c) n l) {j : Nat} {x : Value} (hx : l[j]? = some x) : w.cell? ⟨g, 0 + j, none⟩ = some x := by
  obtain ⟨A, c', he, _, hV, _, _⟩ := own_vals h
  cases he
  obtain ⟨ad, hAd, _, hc⟩ := hV.at_ hx
  injection hAd with hAd
  subst hAd
  rw [← hc]
  congr 1
  unfold Addr.add
  split <;> simp_all
theorem own_up {w w' : World} {base n : Nat} {e : TypeId} {v : Value} {l : List Value} (h : w.ownsRow base e 1 v n l) (hu : Up w w') : w'.ownsRow base e 1 v n l := by
  by_cases hn : v.ownBlock = none
  · exact h.kept (up_grown hu) (.inl hn)
  · exact h.kept (up_grown hu) (.inr hn)
theorem vals_new (w : World) (cs : Array Value) (t : TypeId) : Vals (w.alloc (.cells cs t)) (some ⟨w.heap.size, 0, none⟩) cs.toList := by
  refine Or.inr ⟨_, rfl, by simp, fun j x hj => ?_⟩
  have ha : ((⟨w.heap.size, 0, none⟩ : Addr).add j) = ⟨w.heap.size, j, none⟩ := by unfold Addr.add; split <;> simp_all
  rw [ha]
  unfold World.cell?
  rw [heap_alloc_new]
  show cs[j]? = some x
  rw [← Array.getElem?_toList]
  exact hj
theorem up_alloc_up {w w2 : World} {o : Obj} (h : Up (w.alloc o) w2) : Up w w2 := ((Up.refl w).alloc o).trans h

theorem shr12 (s : Nat) : (s : Int) / 4096 = ((s / 4096 : Nat) : Int) := by omega
set_option maxRecDepth 100000 in
theorem inr_any (s : Nat) (w : World) : Calls Tryd.prog 38 #[.int .u16 (s : Int)] w fun e w' => e = .returned (.bool (decide (s < 4096))) ∧ w' = w := by
  by_cases h : s < 4096
  · have q : ((s : Int) / 4096 == 0) = true := by rw [beq_iff_eq]; omega
    rw [decide_eq_true h]
    clear h
    go_enter Tryd.func38, Tryd.ntmps38
    go_wp2
    go_ret
    exact ⟨rfl, rfl⟩
  · have q : ((s : Int) / 4096 == 0) = false := by rw [beq_eq_false_iff_ne]; omega
    rw [decide_eq_false h]
    clear h
    go_enter Tryd.func38, Tryd.ntmps38
    go_wp2
    go_ret
    exact ⟨rfl, rfl⟩
set_option maxRecDepth 100000 in
theorem rrange_any (s : Nat) (w : World) : Calls Tryd.prog 40 #[.int .u16 (s : Int)] w fun e w' => e = .returned (.bool (decide (s < 4096))) ∧ w' = w := by
  by_cases h : s < 4096
  · have q : decide ((s : Int) < 4096) = true := decide_eq_true (by omega)
    rw [decide_eq_true h]
    clear h
    go_enter Tryd.func40, Tryd.ntmps40
    go_wp2
    go_ret
    exact ⟨rfl, rfl⟩
  · have q : decide ((s : Int) < 4096) = false := decide_eq_false (by omega)
    rw [decide_eq_false h]
    clear h
    go_enter Tryd.func40, Tryd.ntmps40
    go_wp2
    go_ret
    exact ⟨rfl, rfl⟩
theorem con_q (s p : Nat) : (((andN p s : Nat) : Int) == 0) = con s p := by
  unfold con
  rw [Bool.eq_iff_iff, beq_iff_eq, beq_iff_eq]
  omega
set_option maxRecDepth 100000 in
theorem rcon_any (s p : Nat) (w : World) (hs : s < 65536) (hp : p < 65536) : Calls Tryd.prog 42 #[.int .u16 (s : Int), .int .u16 (p : Int)] w fun e w' => e = .returned (.bool (con s p)) ∧ w' = w := by
  have h := andn16 hp hs
  have q := con_q s p
  obtain ⟨b, hb⟩ : ∃ b, con s p = b := ⟨_, rfl⟩
  obtain ⟨x, hx⟩ : ∃ x, andN p s = x := ⟨_, rfl⟩
  rw [hb] at q ⊢
  rw [hx] at h q
  go_enter Tryd.func42, Tryd.ntmps42
  go_wp2
  go_ret
  exact ⟨rfl, rfl⟩
theorem acc_drop (l : List Nat) (s k : Nat) (h : k < l.length) : acc (l.drop k) s = (con s (l[k]'h) || acc (l.drop (k + 1)) s) := by
  rw [drop_at l k h]
  rfl
set_option maxRecDepth 100000 in
set_option maxHeartbeats 2000000 in
theorem acc_any (A : Option Addr) (n c : Nat) (l : List Nat) (s : Nat) (w : World) (hA : Vals w A (us l)) (Hn : Hid (n = l.length)) (HS : Hid (Small16 l)) (hs : s < 65536) (hn : n ≤ 1000000) :
    Calls Tryd.prog 19 #[.slice A n c, .int .u16 (s : Int)] w fun e w' => e = .returned (.bool (acc l s)) ∧ w' = w := by
  obtain ⟨S, HSS⟩ : ∃ S, Hid (S = acc l s) := ⟨_, rfl⟩
  rw [← HSS.out]
  go_enter Tryd.func19, Tryd.ntmps19
  go_wp2
  go_loop [9] (fun v => ∃ k : Nat, v = .int .i64 (k : Int) ∧ k ≤ n ∧ Hid (S = acc (l.drop k) s)) (fun v => n - (intOf v).toNat)
  case atStart => exact ⟨0, rfl, by omega, HSS.out⟩
  case round =>
    obtain ⟨k, rfl, hk, HX⟩ := hrel
    by_cases hlt : k < n
    · have hk1 : k < l.length := by rw [← Hn.out]; exact hlt
      obtain ⟨p, Hp⟩ : ∃ p, Hid (p = l[k]'hk1) := ⟨_, rfl⟩
      have hp16 : p < 65536 := by rw [Hp.out]; exact HS.out _ (List.getElem_mem hk1)
      have hv := us_at hk1
      rw [← Hp.out] at hv
      obtain ⟨ad, hAd, hb, hcell⟩ := hA.at_ hv
      subst hAd
      have HX2 : Hid (S = (con s p || acc (l.drop (k + 1)) s)) := by show S = _; rw [HX.out, acc_drop l s k hk1, ← Hp.out]
      have handn := andn16 hp16 hs
      have hq := con_q s p
      obtain ⟨b, hbb⟩ : ∃ b, con s p = b := ⟨_, rfl⟩
      obtain ⟨x, hx⟩ : ∃ x, andN p s = x := ⟨_, rfl⟩
      rw [hbb] at hq HX2
      rw [hx] at handn hq
      clear hv hA HX hbb hx
      cases b with
      | true =>
        have HY : Hid (S = true) := HX2.out
        go_wp2
        go_ret
        exact ⟨by rw [HY.out]; rfl, rfl⟩
      | false =>
        have HY : Hid (S = acc (l.drop (k + 1)) s) := HX2.out
        go_wp2
        go_round
        case rel => exact ⟨k + 1, by go_num, by omega, HY.out⟩
        case measure => simp [intOf]; omega
    · obtain rfl : k = n := by omega
      have HY : Hid (S = false) := by show S = _; rw [HX.out, List.drop_eq_nil_of_le (by rw [Hn.out]; exact Nat.le_refl _)]; rfl
      go_wp2
      go_ret
      exact ⟨by rw [HY.out]; rfl, rfl⟩
set_option maxRecDepth 100000 in
set_option maxHeartbeats 2000000 in
theorem racc_any (A : Option Addr) (n c : Nat) (l : List Nat) (s : Nat) (w : World) (hA : Vals w A (us l)) (Hn : Hid (n = l.length)) (HS : Hid (Small16 l)) (hs : s < 65536) (hn : n ≤ 1000000) :
    Calls Tryd.prog 20 #[.slice A n c, .int .u16 (s : Int)] w fun e w' => e = .returned (.bool (acc l s)) ∧ w' = w := by
  obtain ⟨S, HSS⟩ : ∃ S, Hid (S = acc l s) := ⟨_, rfl⟩
  rw [← HSS.out]
  go_enter Tryd.func20, Tryd.ntmps20
  go_wp2
  go_loop [5] (fun v => ∃ k : Nat, v = .int .i64 (k : Int) ∧ k ≤ n ∧ Hid (S = acc (l.drop k) s)) (fun v => n - (intOf v).toNat)
  case atStart => exact ⟨0, rfl, by omega, HSS.out⟩
  case round =>
    obtain ⟨k, rfl, hk, HX⟩ := hrel
    by_cases hlt : k < n
    · have hk1 : k < l.length := by rw [← Hn.out]; exact hlt
      obtain ⟨p, Hp⟩ : ∃ p, Hid (p = l[k]'hk1) := ⟨_, rfl⟩
      have hp16 : p < 65536 := by rw [Hp.out]; exact HS.out _ (List.getElem_mem hk1)
      have hv := us_at hk1
      rw [← Hp.out] at hv
      obtain ⟨ad, hAd, hb, hcell⟩ := hA.at_ hv
      subst hAd
      have HX2 : Hid (S = (con s p || acc (l.drop (k + 1)) s)) := by show S = _; rw [HX.out, acc_drop l s k hk1, ← Hp.out]
      have hcall := rcon_any s p w hs hp16
      obtain ⟨b, hbb⟩ : ∃ b, con s p = b := ⟨_, rfl⟩
      rw [hbb] at hcall HX2
      clear hv hA HX hbb
      go_wp2_with fail
      refine hcall.mono ?_
      rintro e w1 ⟨rfl, rfl⟩
      cases b with
      | true =>
        have HY : Hid (S = true) := HX2.out
        go_wp2
        go_ret
        exact ⟨by rw [HY.out]; rfl, rfl⟩
      | false =>
        have HY : Hid (S = acc (l.drop (k + 1)) s) := HX2.out
        go_wp2
        go_round
        case rel => exact ⟨k + 1, by go_num, by omega, HY.out⟩
        case measure => simp [intOf]; omega
    · obtain rfl : k = n := by omega
      have HY : Hid (S = false) := by show S = _; rw [HX.out, List.drop_eq_nil_of_le (by rw [Hn.out]; exact Nat.le_refl _)]; rfl
      go_wp2
      go_ret
      exact ⟨by rw [HY.out]; rfl, rfl⟩
/-- Does g accept each set of f? -/
def wit (f g : List Nat) : Bool := f.all fun s => acc g s
theorem wit_drop (l g : List Nat) (k : Nat) (h : k < l.length) : wit (l.drop k) g = (acc g (l[k]'h) && wit (l.drop (k + 1)) g) := by
  rw [drop_at l k h]
  rfl
set_option maxRecDepth 100000 in
set_option maxHeartbeats 2000000 in
theorem within_any (A B : Option Addr) (n c m d : Nat) (f g : List Nat) (w : World) (hA : Vals w A (us f)) (hB : Vals w B (us g)) (Hn : Hid (n = f.length)) (Hm : Hid (m = g.length)) (HS : Hid (Small16 f)) (HT : Hid (Small16 g)) (hn : n ≤ 1000000) (hm : m ≤ 1000000) :
    Calls Tryd.prog 21 #[.slice A n c, .slice B m d] w fun e w' => e = .returned (.bool (wit f g)) ∧ w' = w := by
  obtain ⟨S, HSS⟩ : ∃ S, Hid (S = wit f g) := ⟨_, rfl⟩
  rw [← HSS.out]
  have hacc := fun s hs => acc_any B m d g s w hB Hm HT hs hm
  clear hB
  go_enter Tryd.func21, Tryd.ntmps21
  go_wp2
  go_loop [9] (fun v => ∃ k : Nat, v = .int .i64 (k : Int) ∧ k ≤ n ∧ Hid (S = wit (f.drop k) g)) (fun v => n - (intOf v).toNat)
  case atStart => exact ⟨0, rfl, by omega, HSS.out⟩
  case round =>
    obtain ⟨k, rfl, hk, HX⟩ := hrel
    by_cases hlt : k < n
    · have hk1 : k < f.length := by rw [← Hn.out]; exact hlt
      obtain ⟨p, Hp⟩ : ∃ p, Hid (p = f[k]'hk1) := ⟨_, rfl⟩
      have hp16 : p < 65536 := by rw [Hp.out]; exact HS.out _ (List.getElem_mem hk1)
      have hv := us_at hk1
      rw [← Hp.out] at hv
      obtain ⟨ad, hAd, hb, hcell⟩ := hA.at_ hv
      subst hAd
      have HX2 : Hid (S = (acc g p && wit (f.drop (k + 1)) g)) := by show S = _; rw [HX.out, wit_drop f g k hk1, ← Hp.out]
      have hcall := hacc p hp16
      obtain ⟨b, hbb⟩ : ∃ b, acc g p = b := ⟨_, rfl⟩
      rw [hbb] at hcall HX2
      clear hv hA HX hbb hacc
      go_wp2_with fail
      refine hcall.mono ?_
      rintro e w1 ⟨rfl, rfl⟩
      cases b with
      | false =>
        have HY : Hid (S = false) := HX2.out
        go_wp2
        go_ret
        exact ⟨by rw [HY.out]; rfl, rfl⟩
      | true =>
        have HY : Hid (S = wit (f.drop (k + 1)) g) := HX2.out
        go_wp2
        go_round
        case rel => exact ⟨k + 1, by go_num, by omega, HY.out⟩
        case measure => simp [intOf]; omega
    · obtain rfl : k = n := by omega
      have HY : Hid (S = true) := by show S = _; rw [HX.out, List.drop_eq_nil_of_le (by rw [Hn.out]; exact Nat.le_refl _)]; rfl
      clear hacc
      go_wp2
      go_ret
      exact ⟨by rw [HY.out]; rfl, rfl⟩
set_option maxRecDepth 100000 in
set_option maxHeartbeats 2000000 in
theorem rwithin_any (A B : Option Addr) (n c m d : Nat) (f g : List Nat) (w : World) (hA : Vals w A (us f)) (hB : Vals w B (us g)) (Hn : Hid (n = f.length)) (Hm : Hid (m = g.length)) (HS : Hid (Small16 f)) (HT : Hid (Small16 g)) (hn : n ≤ 1000000) (hm : m ≤ 1000000) :
    Calls Tryd.prog 22 #[.slice A n c, .slice B m d] w fun e w' => e = .returned (.bool (wit f g)) ∧ w' = w := by
  obtain ⟨S, HSS⟩ : ∃ S, Hid (S = wit f g) := ⟨_, rfl⟩
  rw [← HSS.out]
  have hacc := fun s hs => racc_any B m d g s w hB Hm HT hs hm
  clear hB
  go_enter Tryd.func22, Tryd.ntmps22
  go_wp2
  go_loop [5] (fun v => ∃ k : Nat, v = .int .i64 (k : Int) ∧ k ≤ n ∧ Hid (S = wit (f.drop k) g)) (fun v => n - (intOf v).toNat)
  case atStart => exact ⟨0, rfl, by omega, HSS.out⟩
  case round =>
    obtain ⟨k, rfl, hk, HX⟩ := hrel
    by_cases hlt : k < n
    · have hk1 : k < f.length := by rw [← Hn.out]; exact hlt
      obtain ⟨p, Hp⟩ : ∃ p, Hid (p = f[k]'hk1) := ⟨_, rfl⟩
      have hp16 : p < 65536 := by rw [Hp.out]; exact HS.out _ (List.getElem_mem hk1)
      have hv := us_at hk1
      rw [← Hp.out] at hv
      obtain ⟨ad, hAd, hb, hcell⟩ := hA.at_ hv
      subst hAd
      have HX2 : Hid (S = (acc g p && wit (f.drop (k + 1)) g)) := by show S = _; rw [HX.out, wit_drop f g k hk1, ← Hp.out]
      have hcall := hacc p hp16
      obtain ⟨b, hbb⟩ : ∃ b, acc g p = b := ⟨_, rfl⟩
      rw [hbb] at hcall HX2
      clear hv hA HX hbb hacc
      go_wp2_with fail
      refine hcall.mono ?_
      rintro e w1 ⟨rfl, rfl⟩
      cases b with
      | false =>
        have HY : Hid (S = false) := HX2.out
        go_wp2
        go_ret
        exact ⟨by rw [HY.out]; rfl, rfl⟩
      | true =>
        have HY : Hid (S = wit (f.drop (k + 1)) g) := HX2.out
        go_wp2
        go_round
        case rel => exact ⟨k + 1, by go_num, by omega, HY.out⟩
        case measure => simp [intOf]; omega
    · obtain rfl : k = n := by omega
      have HY : Hid (S = true) := by show S = _; rw [HX.out, List.drop_eq_nil_of_le (by rw [Hn.out]; exact Nat.le_refl _)]; rfl
      clear hacc
      go_wp2
      go_ret
      exact ⟨by rw [HY.out]; rfl, rfl⟩
/-- The union of the sets of a list. -/
def sup (a : Nat) : List Nat → Nat
  | [] => a
  | s :: r => sup (a ||| s) r
theorem sup_small {l : List Nat} (h : Small16 l) : ∀ a, a < 65536 → sup a l < 65536 := by
  induction l with
  | nil => intro a ha; exact ha
  | cons s r ih => intro a ha; exact ih (fun x hx => h x (by simp [hx])) _ (or_lt ha (h s (by simp)))
set_option maxRecDepth 100000 in
set_option maxHeartbeats 2000000 in
theorem support_any (A : Option Addr) (n c : Nat) (l : List Nat) (w : World) (hA : Vals w A (us l)) (Hn : Hid (n = l.length)) (HS : Hid (Small16 l)) (hn : n ≤ 1000000) :
    Calls Tryd.prog 23 #[.slice A n c] w fun e w' => e = .returned (.int .u16 ((sup 0 l : Nat) : Int)) ∧ w' = w := by
  obtain ⟨S, HSS⟩ : ∃ S, Hid (S = sup 0 l) := ⟨_, rfl⟩
  rw [← HSS.out]
  go_enter Tryd.func23, Tryd.ntmps23
  go_wp2
  go_loop [3, 8] (fun v3 v => ∃ k a : Nat, v = .int .i64 (k : Int) ∧ k ≤ n ∧ v3 = .int .u16 (a : Int) ∧ a < 65536 ∧ Hid (S = sup a (l.drop k))) (fun _ v => n - (intOf v).toNat)
  case atStart => exact ⟨0, 0, rfl, by omega, rfl, by omega, HSS.out⟩
  case round =>
    obtain ⟨k, a, rfl, hk, rfl, ha, HX⟩ := hrel
    by_cases hlt : k < n
    · have hk1 : k < l.length := by rw [← Hn.out]; exact hlt
      obtain ⟨p, Hp⟩ : ∃ p, Hid (p = l[k]'hk1) := ⟨_, rfl⟩
      have hp16 : p < 65536 := by rw [Hp.out]; exact HS.out _ (List.getElem_mem hk1)
      have hv := us_at hk1
      rw [← Hp.out] at hv
      obtain ⟨ad, hAd, hb, hcell⟩ := hA.at_ hv
      subst hAd
      have HX2 : Hid (S = sup (a ||| p) (l.drop (k + 1))) := by show S = _; rw [HX.out, drop_at l k hk1, ← Hp.out]; rfl
      have hor := or16 ha hp16
      have hlt2 := or_lt ha hp16
      obtain ⟨x, hx⟩ : ∃ x, a ||| p = x := ⟨_, rfl⟩
      rw [hx] at hor hlt2 HX2
      clear hv hA HX hx
      go_wp2
      go_round
      case rel => exact ⟨k + 1, x, by go_num, by omega, rfl, hlt2, HX2.out⟩
      case measure => simp [intOf]; omega
    · obtain rfl : k = n := by omega
      have HY : Hid (S = a) := by show S = _; rw [HX.out, List.drop_eq_nil_of_le (by rw [Hn.out]; exact Nat.le_refl _)]; rfl
      go_wp2
      go_ret
      exact ⟨by rw [HY.out]; rfl, rfl⟩
set_option maxRecDepth 100000 in
set_option maxHeartbeats 2000000 in
theorem rsupport_any (A : Option Addr) (n c : Nat) (l : List Nat) (w : World) (hA : Vals w A (us l)) (Hn : Hid (n = l.length)) (HS : Hid (Small16 l)) (hn : n ≤ 1000000) :
    Calls Tryd.prog 24 #[.slice A n c] w fun e w' => e = .returned (.int .u16 ((sup 0 l : Nat) : Int)) ∧ w' = w := by
  obtain ⟨S, HSS⟩ : ∃ S, Hid (S = sup 0 l) := ⟨_, rfl⟩
  rw [← HSS.out]
  go_enter Tryd.func24, Tryd.ntmps24
  go_wp2
  go_loop [3, 4] (fun v3 v => ∃ k a : Nat, v = .int .i64 (k : Int) ∧ k ≤ n ∧ v3 = .int .u16 (a : Int) ∧ a < 65536 ∧ Hid (S = sup a (l.drop k))) (fun _ v => n - (intOf v).toNat)
  case atStart => exact ⟨0, 0, rfl, by omega, rfl, by omega, HSS.out⟩
  case round =>
    obtain ⟨k, a, rfl, hk, rfl, ha, HX⟩ := hrel
    by_cases hlt : k < n
    · have hk1 : k < l.length := by rw [← Hn.out]; exact hlt
      obtain ⟨p, Hp⟩ : ∃ p, Hid (p = l[k]'hk1) := ⟨_, rfl⟩
      have hp16 : p < 65536 := by rw [Hp.out]; exact HS.out _ (List.getElem_mem hk1)
      have hv := us_at hk1
      rw [← Hp.out] at hv
      obtain ⟨ad, hAd, hb, hcell⟩ := hA.at_ hv
      subst hAd
      have HX2 : Hid (S = sup (a ||| p) (l.drop (k + 1))) := by show S = _; rw [HX.out, drop_at l k hk1, ← Hp.out]; rfl
      have hor := or16 ha hp16
      have hlt2 := or_lt ha hp16
      obtain ⟨x, hx⟩ : ∃ x, a ||| p = x := ⟨_, rfl⟩
      rw [hx] at hor hlt2 HX2
      clear hv hA HX hx
      go_wp2
      go_round
      case rel => exact ⟨k + 1, x, by go_num, by omega, rfl, hlt2, HX2.out⟩
      case measure => simp [intOf]; omega
    · obtain rfl : k = n := by omega
      have HY : Hid (S = a) := by show S = _; rw [HX.out, List.drop_eq_nil_of_le (by rw [Hn.out]; exact Nat.le_refl _)]; rfl
      go_wp2
      go_ret
      exact ⟨by rw [HY.out]; rfl, rfl⟩
end Go.Proofs.YtfdlmgjjpcdkpaaDoor
