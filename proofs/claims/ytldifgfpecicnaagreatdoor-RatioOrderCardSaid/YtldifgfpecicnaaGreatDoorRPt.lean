/- Decimal texts: the point. -/
import Derived.Test.YtldifgfpecicnaaGreatDoorR10
import Derived.Test.YtldifgfpecicnaaGreatDoorGU
namespace Go.Proofs.YtldifgfpecicnaaGreatDoor
open Go.RowKit

/-- Zeros ahead, so that more than d digits stand there. -/
def padT (N : ByteArray) (d : Nat) : ByteArray := bs (List.replicate (d + 1 - N.size) 48) ++ N
/-- A point ahead of the last d digits. -/
def dotT (P : ByteArray) (d : Nat) : ByteArray := P.extract 0 (P.size - d) ++ ⟨#[46]⟩ ++ P.extract (P.size - d) P.size
theorem repQ (c : Nat) (w : World) (hc : c ≤ 1000) : Calls Tryz.prog 68 #[.string ⟨#[48]⟩, .int .i64 c] w (PS w (bs (List.replicate c 48))) := rep_any c w (by omega)
theorem size_46 : (⟨#[46]⟩ : ByteArray).size = 1 := rfl
theorem size_45 : (⟨#[45]⟩ : ByteArray).size = 1 := rfl
theorem rep_size (c : Nat) : (bs (List.replicate c 48)).size = c := by rw [bs_size, List.length_replicate]
theorem padT_size (N : ByteArray) (d : Nat) : (padT N d).size = d + 1 - N.size + N.size := by unfold padT; rw [ByteArray.size_append, rep_size]

set_option maxRecDepth 1000000 in
set_option maxHeartbeats 2000000 in
theorem pointed_f (s N Z P : ByteArray) (n d c m : Nat) (w : World) (hd0 : 0 < d) (hd : d ≤ 20) (hN : cutS s = N) (hneg : negB s = false) (hn : N.size = n) (hn4 : n ≤ 400) (hs : s.size ≤ 1000)
    (hc : c = d + 1 - n) (hZ : bs (List.replicate c 48) = Z) (hP : Z ++ N = P) (hm : P.size = m + d) (hm4 : m ≤ 400) :
    Calls Tryz.prog 71 #[.string s, .int .i64 d] w (PS w (dotT P d)) := by
  have HD : Hid (dotT P d = P.extract 0 m ++ ⟨#[46]⟩ ++ P.extract m (m + d)) := by show _ = _; unfold dotT; rw [hm, Nat.add_sub_cancel]
  have hcut := fun W => cut_any s W (by omega)
  rw [hN, hneg] at hcut
  have hrep := fun W => repQ c W (by omega)
  rw [hZ] at hrep
  have hd1 : ((d : Int) == 0) = false := by rw [beq_eq_false_iff_ne]; omega
  have hz0 : ¬ 9223372036854775807 < Z.size + N.size := by rw [← hZ, rep_size]; omega
  have hPs : P.size ≤ 420 := by omega
  have HM := hide hm
  have HN := hide hn
  have HZ := hide hZ
  have HC := hide hc
  have HP := hide hP
  clear hN hneg hc hZ hm hP
  have hmax : max (0 : Int) ((d : Int) + 1 - (n : Int)) = (c : Int) := by rw [HC.out]; omega
  go_enter Tryz.func71, Tryz.ntmps71
  go_wp2_with fail
  refine (hcut _).mono ?_
  rintro e w' ⟨rfl, rfl⟩
  go_wp2_with fail
  refine (hrep _).mono ?_
  rintro e w1 ⟨rfl, hup⟩
  have hP2 := HP.out
  have hm2 := HM.out
  have hm0 : (0 : Int) ≤ (m : Int) := by omega
  have hmP : m ≤ P.size := by omega
  have hsz1 : ¬ 9223372036854775807 < (P.extract 0 m).size + (⟨#[46]⟩ : ByteArray).size := by rw [ByteArray.size_extract, size_46]; omega
  have hsz2 : ¬ 9223372036854775807 < (P.extract 0 m ++ ⟨#[46]⟩ : ByteArray).size + (P.extract m P.size).size := by rw [ByteArray.size_append, ByteArray.size_extract, ByteArray.size_extract, size_46]; omega
  go_wp2_with fail
  go_quiet (fail)
  go_wp2
  go_ret
  exact ⟨by rw [HD.out] <;> rfl, hup.drewN _⟩
set_option maxRecDepth 1000000 in
set_option maxHeartbeats 2000000 in
theorem pointed_t (s N Z P : ByteArray) (n d c m : Nat) (w : World) (hd0 : 0 < d) (hd : d ≤ 20) (hN : cutS s = N) (hneg : negB s = true) (hn : N.size = n) (hn4 : n ≤ 400) (hs : s.size ≤ 1000)
    (hc : c = d + 1 - n) (hZ : bs (List.replicate c 48) = Z) (hP : Z ++ N = P) (hm : P.size = m + d) (hm4 : m ≤ 400) :
    Calls Tryz.prog 71 #[.string s, .int .i64 d] w (PS w (⟨#[45]⟩ ++ dotT P d)) := by
  have HD : Hid (dotT P d = P.extract 0 m ++ ⟨#[46]⟩ ++ P.extract m (m + d)) := by show _ = _; unfold dotT; rw [hm, Nat.add_sub_cancel]
  have hcut := fun W => cut_any s W (by omega)
  rw [hN, hneg] at hcut
  have hrep := fun W => repQ c W (by omega)
  rw [hZ] at hrep
  have hd1 : ((d : Int) == 0) = false := by rw [beq_eq_false_iff_ne]; omega
  have hz0 : ¬ 9223372036854775807 < Z.size + N.size := by rw [← hZ, rep_size]; omega
  have hPs : P.size ≤ 420 := by omega
  have HM := hide hm
  have HN := hide hn
  have HZ := hide hZ
  have HC := hide hc
  have HP := hide hP
  clear hN hneg hc hZ hm hP
  have hmax : max (0 : Int) ((d : Int) + 1 - (n : Int)) = (c : Int) := by rw [HC.out]; omega
  go_enter Tryz.func71, Tryz.ntmps71
  go_wp2_with fail
  refine (hcut _).mono ?_
  rintro e w' ⟨rfl, rfl⟩
  go_wp2_with fail
  refine (hrep _).mono ?_
  rintro e w1 ⟨rfl, hup⟩
  have hP2 := HP.out
  have hm2 := HM.out
  have hm0 : (0 : Int) ≤ (m : Int) := by omega
  have hmP : m ≤ P.size := by omega
  have hsz1 : ¬ 9223372036854775807 < (P.extract 0 m).size + (⟨#[46]⟩ : ByteArray).size := by rw [ByteArray.size_extract, size_46]; omega
  have hsz2 : ¬ 9223372036854775807 < (P.extract 0 m ++ ⟨#[46]⟩ : ByteArray).size + (P.extract m P.size).size := by rw [ByteArray.size_append, ByteArray.size_extract, ByteArray.size_extract, size_46]; omega
  go_wp2_with fail
  have hsz3 : ¬ 9223372036854775807 < (⟨#[45]⟩ : ByteArray).size + (P.extract 0 m ++ ⟨#[46]⟩ ++ P.extract m P.size : ByteArray).size := by rw [ByteArray.size_append, ByteArray.size_append, ByteArray.size_extract, ByteArray.size_extract, size_46, size_45]; omega
  go_quiet (fail)
  go_wp2
  go_ret
  exact ⟨by rw [HD.out] <;> rfl, hup.drewN _⟩
set_option maxRecDepth 1000000 in
set_option maxHeartbeats 2000000 in
theorem pointed_0 (s : ByteArray) (w : World) : Calls Tryz.prog 71 #[.string s, .int .i64 0] w (PS w s) := by
  go_enter Tryz.func71, Tryz.ntmps71
  go_wp2
  go_ret
  exact ⟨rfl, Up.refl w⟩
theorem neg_itxt (q : Int) : negB (bs (itxt q)) = decide (q < 0) := by
  unfold negB
  rw [by_bs _ itxt_lt]
  by_cases h0 : q = 0
  · subst h0; rfl
  · by_cases h : q < 0
    · rw [decide_eq_true h]; unfold itxt; rw [if_neg h0, if_pos h]; rfl
    · rw [decide_eq_false h, decide_eq_false_iff_not]
      unfold itxt
      rw [if_neg h0, if_neg h]
      intro e
      have hN : q.natAbs ≠ 0 := by omega
      cases ht : txt q.natAbs with
      | nil => rw [ht] at e; cases e
      | cons a l =>
        rw [ht] at e
        have ha : a ∈ txt q.natAbs := by rw [ht]; exact List.mem_cons_self
        have := dg_mem ha
        have e2 : a = 45 := e
        omega
theorem cut_itxt (q : Int) : cutS (bs (itxt q)) = bs (itxt q.natAbs) := by
  unfold cutS
  rw [neg_itxt]
  by_cases h : q < 0
  · rw [decide_eq_true h]
    have h0 : q ≠ 0 := by omega
    have e : itxt q = 45 :: itxt q.natAbs := by
      have hn : ((q.natAbs : Nat) : Int) ≠ 0 := by omega
      have hn2 : ¬ ((q.natAbs : Nat) : Int) < 0 := by omega
      rw [show itxt q = 45 :: txt q.natAbs by unfold itxt; rw [if_neg h0, if_pos h], show itxt (q.natAbs : Int) = txt q.natAbs by unfold itxt; rw [if_neg hn, if_neg hn2, Int.natAbs_natCast]]
    rw [e]
    apply by_inj
    rw [if_pos rfl]
    have hb : by_ (bs (45 :: itxt q.natAbs)) = 45 :: itxt q.natAbs := by rw [← e]; exact by_bs _ itxt_lt
    have hneg : negB (bs (45 :: itxt (q.natAbs : Int))) = true := by rw [← e, neg_itxt, decide_eq_true h]
    have h2 := by_behind hneg rfl
    rw [hb] at h2
    injection h2 with _ h3
    rw [← h3, by_bs _ itxt_lt]
  · rw [decide_eq_false h]
    have e : (q.natAbs : Int) = q := by omega
    rw [e]; rfl
/-- The digits of q / 10 ^ d. -/
def decT (q : Int) (d : Nat) : ByteArray :=
  let P := padT (bs (itxt q.natAbs)) d
  let S := if d = 0 then P else dotT P d
  if q < 0 then ⟨#[45]⟩ ++ S else S
theorem itxt_pos_len {z : Int} : 0 < (itxt z).length := by
  unfold itxt
  split
  · simp
  · split
    · simp
    · rename_i h0 h1
      rw [txt_len, dgt_pos (by omega)]; omega
theorem padT_0 (z : Int) : padT (bs (itxt z)) 0 = bs (itxt z) := by
  have h := itxt_pos_len (z := z)
  unfold padT
  rw [bs_size, show 0 + 1 - (itxt z).length = 0 by omega]
  show bs [] ++ _ = _
  rw [bs_append]; rfl
theorem pointQ {w : World} {q : Int} (hq : q.natAbs < top300) (d : Nat) (hd : d ≤ 20) : Calls Tryz.prog 71 #[.string (bs (itxt q)), .int .i64 d] w (PS w (decT q d)) := by
  have hs := itxt_size hq
  have ha : (bs (itxt (q.natAbs : Int))).size ≤ 301 := itxt_size (by rw [Int.natAbs_natCast]; exact hq)
  unfold decT
  by_cases h0 : d = 0
  · subst h0
    refine (pointed_0 _ w).mono ?_
    rintro e w1 ⟨rfl, hup⟩
    refine ⟨?_, hup⟩
    simp only [if_true]
    rw [padT_0]
    by_cases h : q < 0
    · rw [if_pos h]
      have hq0 : q ≠ 0 := by omega
      have hn : ((q.natAbs : Nat) : Int) ≠ 0 := by omega
      have hn2 : ¬ ((q.natAbs : Nat) : Int) < 0 := by omega
      have e : itxt q = 45 :: itxt q.natAbs := by
        rw [show itxt q = 45 :: txt q.natAbs by unfold itxt; rw [if_neg hq0, if_pos h], show itxt (q.natAbs : Int) = txt q.natAbs by unfold itxt; rw [if_neg hn, if_neg hn2, Int.natAbs_natCast]]
      rw [e, show (⟨#[45]⟩ : ByteArray) = bs [45] from rfl, bs_append]; rfl
    · rw [if_neg h, show (q.natAbs : Int) = q by omega]
  · simp only [if_neg h0]
    have hsz := padT_size (bs (itxt (q.natAbs : Int))) d
    by_cases h : q < 0
    · rw [if_pos h]
      exact pointed_t _ _ _ (padT (bs (itxt (q.natAbs : Int))) d) _ d _ ((padT (bs (itxt (q.natAbs : Int))) d).size - d) w (by omega) hd (cut_itxt q) (by rw [neg_itxt, decide_eq_true h]) rfl (by omega) (by omega) rfl rfl rfl (by omega) (by omega)
    · rw [if_neg h]
      exact pointed_f _ _ _ (padT (bs (itxt (q.natAbs : Int))) d) _ d _ ((padT (bs (itxt (q.natAbs : Int))) d).size - d) w (by omega) hd (cut_itxt q) (by rw [neg_itxt, decide_eq_false h]) rfl (by omega) (by omega) rfl rfl rfl (by omega) (by omega)
theorem pow_texts : ∀ d : Fin 21, (okS (⟨#[49]⟩ ++ bs (List.replicate d.val 48)) && decide (valS (⟨#[49]⟩ ++ bs (List.replicate d.val 48)) = 10 ^ d.val)) = true := by decide +kernel
theorem powOK (d : Nat) (hd : d ≤ 20) : okS (⟨#[49]⟩ ++ bs (List.replicate d 48)) = true ∧ valS (⟨#[49]⟩ ++ bs (List.replicate d 48)) = 10 ^ d := by
  have h := pow_texts ⟨d, by omega⟩
  simp only [Bool.and_eq_true, decide_eq_true_eq] at h
  exact h
end Go.Proofs.YtldifgfpecicnaaGreatDoor
