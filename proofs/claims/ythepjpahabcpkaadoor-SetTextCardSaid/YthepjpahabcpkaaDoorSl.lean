/- What the laws' awake returns. -/
import Derived.Test.YthepjpahabcpkaaDoorSk
namespace Go.Proofs.YthepjpahabcpkaaDoor
open Go.RowKit

theorem vals_new (w : World) (cs : Array Value) (t : TypeId) : Vals (w.alloc (.cells cs t)) (some ⟨w.heap.size, 0, none⟩) cs.toList := by
  refine Or.inr ⟨_, rfl, by simp, fun j x hj => ?_⟩
  have ha : ((⟨w.heap.size, 0, none⟩ : Addr).add j) = ⟨w.heap.size, j, none⟩ := by unfold Addr.add; split <;> simp_all
  rw [ha]
  unfold World.cell?
  rw [heap_alloc_new]
  show cs[j]? = some x
  rw [← Array.getElem?_toList]
  exact hj
theorem dec_one {i : Nat} (h : i < 10) : Lib.decDigits i = [UInt8.ofNat (48 + i)] := by rw [Lib.decDigits, dif_pos h]
theorem ex1 : ofS 0 [2, 0, 5] = (37, 0) := by decide +kernel
theorem ex2 : renS [4, 9, 1] 0 (mem 16 5) = (18, 0) := by decide +kernel
theorem ex3 : bu (txU 37) = ⟨#[123, 48, 32, 50, 32, 53, 125]⟩ := by
  have : mem 16 37 = [0, 2, 5] := by decide +kernel
  unfold txU fmU
  rw [this]
  simp only [List.map_cons, List.map_nil, dec_one (show 0 < 10 by omega), dec_one (show 2 < 10 by omega), dec_one (show 5 < 10 by omega)]
  decide +kernel
theorem ex4 : cmpS 8 3 = -1 := by decide +kernel
theorem ex5 : subs 5 (cnt 5 + 1) = [0, 1, 4, 5] := by decide +kernel
set_option maxRecDepth 100000 in
set_option maxHeartbeats 4000000 in
theorem collect_subsets (s Bs : Nat) (w : World) (hs : s < 65536) (hlen : (subs s (cnt s + 1)).length ≤ 1000000) (hB : Bs < w.heap.size) (hBs : Boxed w Bs 25 (.int .u16 (s : Int))) :
    Calls Tryd.prog 28 #[.func (.func 52) #[] #[.pointer (some ⟨Bs, 0, none⟩)]] w fun e w' => ∃ v, e = .returned v ∧ w'.ownsRow w.heap.size 25 1 v (subs s (cnt s + 1)).length (us (subs s (cnt s + 1))) ∧ Up w w' :=
  collect_sets _ _ (enters_of Tryd.func52 (by kernel_rfl) rfl) _ w hlen (subsets_seq Bs s w.heap.size w hs (Nat.le_refl _) hB hBs)
theorem up_alloc_up {w w2 : World} {o : Obj} (h : Up (w.alloc o) w2) : Up w w2 := ((Up.refl w).alloc o).trans h
set_option maxRecDepth 100000 in
set_option maxHeartbeats 4000000 in
theorem awake_any (w : World) (hTab : Tabs w) : Calls Tryd.prog 13 #[] w (RetV w (.bool true)) := by
  have HTab := hide hTab
  clear hTab
  go_enter Tryd.func13, Tryd.ntmps13
  go_wp2_with fail
  have h1 := of_any (some ⟨w.heap.size, 0, none⟩) 3 3 [2, 0, 5] (w.alloc (.cells #[.int .i64 2, .int .i64 0, .int .i64 5] 3)) (vals_new _ _ _) rfl (by omega)
  rw [ex1] at h1
  refine h1.mono ?_
  clear h1
  rintro e w1 ⟨rfl, hu1⟩
  replace hu1 := up_alloc_up hu1
  go_wp2_with fail
  have h2 := rename_any 5 (some ⟨w1.heap.size, 0, none⟩) 3 3 [4, 9, 1] (w1.alloc (.cells #[.int .i64 4, .int .i64 9, .int .i64 1] 3)) (HTab.out.up (hu1.alloc _)) (by omega) (vals_new _ _ _) rfl
  rw [ex2] at h2
  refine h2.mono ?_
  clear h2
  rintro e w2 ⟨rfl, hu2⟩
  replace hu2 := hu1.trans (up_alloc_up hu2)
  clear hu1
  go_wp2_with fail
  have h3 := format_any 37 w2 (HTab.out.up hu2) (by omega)
  rw [ex3] at h3
  refine h3.mono ?_
  clear h3
  rintro e w3 ⟨rfl, hu3⟩
  replace hu3 := hu2.trans hu3
  clear hu2
  go_wp2_with fail
  have h4 := compare_any 8 3 w3 (by omega) (by omega)
  rw [ex4] at h4
  refine h4.mono ?_
  clear h4
  rintro e w4 ⟨rfl, hu4⟩
  replace hu4 := hu3.trans hu4
  clear hu3
  go_wp2_with fail
  refine (callsIn_wide.1 (subsets_any 5 w4)).mono ?_
  rintro e w5 ⟨rfl, rfl⟩
  go_wp2_with fail
  have h6 := collect_subsets 5 w4.heap.size (w4.alloc (.cells #[.int .u16 ((5 : Nat) : Int)] 25)) (by omega) (by rw [ex5]; decide) (by simp) (Boxed.new _ _ _)
  rw [ex5] at h6
  refine h6.mono ?_
  clear h6
  rintro e w6 ⟨v, rfl, hown, hu6⟩
  obtain ⟨A1, c1, rfl, hc1, hV, _, _⟩ := own_vals hown
  clear hown
  replace hu6 := hu4.trans (up_alloc_up hu6)
  clear hu4
  go_wp2_with fail
  refine (same_any A1 (some ⟨w6.heap.size, 0, none⟩) 4 c1 4 [0, 1, 4, 5] _ (hV.up ((Up.refl _).alloc _)) (vals_new _ _ _) rfl (by omega)).mono ?_
  rintro e w7 ⟨rfl, hu7⟩
  go_wp2
  go_ret
  exact ⟨rfl, hu6.trans (up_alloc_up hu7)⟩
end Go.Proofs.YthepjpahabcpkaaDoor
