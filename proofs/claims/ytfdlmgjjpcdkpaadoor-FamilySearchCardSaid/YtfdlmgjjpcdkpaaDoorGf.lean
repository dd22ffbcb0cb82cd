/- The reference's family of a draft. -/
import Derived.Test.YtfdlmgjjpcdkpaaDoorGe
namespace Go.Proofs.YtfdlmgjjpcdkpaaDoor
open Go.RowKit

/-- The sets of a draft on so many servers: each cut to its servers, the empty dropped. -/
def cutS (n : Nat) (l : List Nat) : List Nat := (l.map fun x => x &&& (2 ^ n - 1)).filter fun x => x != 0
def drf (b : Nat) (l : List Nat) : List Nat := if 20 < l.length then [] else minS (cutS (1 + b % 6) l)
theorem cutS_step {n : Nat} {l : List Nat} {k : Nat} (h : k < l.length) : cutS n (l.take (k + 1)) = cutS n (l.take k) ++ (if (l[k]'h &&& (2 ^ n - 1)) != 0 then [l[k]'h &&& (2 ^ n - 1)] else []) := by
  unfold cutS
  rw [take_snoc h, List.map_append, List.filter_append]
  congr 1
  simp only [List.map_cons, List.map_nil, List.filter_cons, List.filter_nil]
theorem cutS_len (n : Nat) (l : List Nat) : (cutS n l).length ≤ l.length := by
  unfold cutS
  refine Nat.le_trans (List.length_filter_le _ _) ?_
  simp
theorem cutS_lt {n : Nat} (l : List Nat) : ∀ x ∈ cutS n l, x < 2 ^ n := by
  intro x hx
  unfold cutS at hx
  obtain ⟨y, _, rfl⟩ := List.mem_map.1 (List.mem_filter.1 hx).1
  have : 0 < 2 ^ n := Nat.two_pow_pos n
  have := Nat.and_le_right (n := y) (m := 2 ^ n - 1)
  omega
/-- What Of returns. -/
def RetO (w : World) (l : List Nat) (n : Nat) (b : Bool) (e : Ending) (w' : World) : Prop := ∃ v, e = .returned (.tuple #[v, .int .i64 (n : Int), .bool b]) ∧ w'.ownsRow w.heap.size 28 1 v l.length (us l) ∧ Up w w'
theorem mod6 (b : Nat) : (1 : Int) + (b : Int) % 6 = ((1 + b % 6 : Nat) : Int) := by omega
theorem mask6 {z : Nat} (h : z ≤ 6) : IntKind.u16.wrap (IntKind.u16.wrap ((2 : Int) ^ z) - 1) = ((2 ^ z - 1 : Nat) : Int) := by
  have : z = 0 ∨ z = 1 ∨ z = 2 ∨ z = 3 ∨ z = 4 ∨ z = 5 ∨ z = 6 := by omega
  rcases this with rfl | rfl | rfl | rfl | rfl | rfl | rfl <;> decide
set_option maxRecDepth 100000 in
set_option maxHeartbeats 4000000 in
theorem rof_any (b : Nat) (A : Option Addr) (n c : Nat) (l : List Nat) (w : World) (hA0 : Vals w A (us l)) (Hn : Hid (n = l.length)) (HS : Hid (Small16 l)) (hn : n ≤ 9223372036854775807) :
    Calls Tryd.prog 36 #[.agg #[.int .u8 (b : Int), .slice A n c]] w (RetO w (drf b l) (1 + b % 6) (decide (n ≤ 20))) := by
  have HA := hide hA0
  clear hA0
  obtain ⟨z, Hz⟩ : ∃ z, Hid (z = 1 + b % 6) := ⟨_, rfl⟩
  have hz6 : z ≤ 6 := by rw [Hz.out]; omega
  have hz1 : 1 ≤ z := by rw [Hz.out]; omega
  have q6 := mod6 b
  rw [← Hz.out] at q6 ⊢
  obtain ⟨o, ho⟩ : ∃ o : Obj, o = .cells #[.int .u8 (b : Int), .slice A n c] 47 := ⟨_, rfl⟩
  by_cases h20 : n ≤ 20
  · have d1 : decide (20 < (n : Int)) = false := decide_eq_false (by omega)
    have HD : Hid (drf b l = minS (cutS z l)) := by show _ = _; unfold drf; rw [if_neg (by rw [← Hn.out]; omega), Hz.out]
    have hmask := mask6 hz6
    have hm16 : 2 ^ z - 1 < 65536 := by
      have : 2 ^ z ≤ 2 ^ 6 := Nat.pow_le_pow_right (by omega) hz6
      omega
    obtain ⟨M, HM⟩ : ∃ M : Nat, Hid (M = 2 ^ z - 1) := ⟨2 ^ z - 1, rfl⟩
    rw [← HM.out] at hmask hm16
    rw [decide_eq_true h20]
    go_enter Tryd.func36, Tryd.ntmps36
    go_wp2
    go_loopw [6, 7] (fun v6 v7 wr => ∃ (k q : Nat) (ls : List Nat), v7 = .int .i64 (k : Int) ∧ k ≤ n ∧ q ≤ k ∧ wr.ownsRow (w.heap.size + 1) 28 1 v6 q (us ls) ∧ Hid (ls = cutS z (l.take k)) ∧ Up (w.alloc (.cells #[.int .u8 (b : Int), .slice A n c] 47)) wr) (fun _ v7 _ => n - (intOf v7).toNat)
    case atStart => exact ⟨0, 0, [], rfl, by omega, by omega, World.ownsRow_nil _ _ _ _, rfl, Up.refl _⟩
    case round =>
      obtain ⟨k, q, ls, rfl, hk, hq, hown, HL, hup⟩ := hrel
      have hsz := hup.size
      have hup0 := up_alloc_up hup
      have hbox : wr.cell? ⟨w.heap.size, 1, none⟩ = some (.slice A n c) := by rw [hup.cell (by simp)]; unfold World.cell?; rw [heap_alloc_new]; rfl
      by_cases hlt : k < n
      · have hk1 : k < l.length := by rw [← Hn.out]; exact hlt
        obtain ⟨x, Hx⟩ : ∃ x, Hid (x = l[k]'hk1) := ⟨_, rfl⟩
        have hx16 : x < 65536 := by rw [Hx.out]; exact HS.out _ (List.getElem_mem hk1)
        have hv := us_at hk1
        rw [← Hx.out] at hv
        obtain ⟨ad, hAd, hb, hcell⟩ := (HA.out.up hup0).at_ hv
        subst hAd
        have hand := and16 (b := M) hx16
        have HL3 : Hid (cutS z (l.take (k + 1)) = ls ++ (if (x &&& M) != 0 then [x &&& M] else [])) := by show _ = _; rw [cutS_step hk1, ← Hx.out, HL.out, HM.out]
        obtain ⟨y, hy⟩ : ∃ y, x &&& M = y := ⟨_, rfl⟩
        rw [hy] at hand HL3
        have hlt' : decide (k < n) = true := decide_eq_true hlt
        clear hv hy
        by_cases hy0 : y = 0
        · have q1 : ((y : Int) != 0) = false := by rw [bne_eq_false_iff_eq]; omega
          have HL4 : Hid (ls = cutS z (l.take (k + 1))) := by show _ = _; rw [HL3.out, hy0]; simp
          clear hy0 HL3
          go_wp2
          go_quiet (fail)
          go_wp2
          go_roundw
          case rel => exact ⟨k + 1, q, ls, by go_num, by omega, by omega, own_up hown ((Up.refl wr).drewN _), HL4.out, hup.drewN _⟩
          case measure => simp [intOf]; omega
        · have q1 : ((y : Int) != 0) = true := by rw [bne_iff_ne]; omega
          have HL4 : Hid (ls ++ [y] = cutS z (l.take (k + 1))) := by show _ = _; rw [HL3.out, if_pos (by simpa using hy0)]
          clear hy0 HL3
          go_wp2
          go_quiet (fail)
          have hown4 := own_up hown ((Up.refl wr).drewN nq)
          have hup4 := hup.drewN nq
          obtain ⟨w4, hw4⟩ : ∃ w4, wr.drewN nq = w4 := ⟨_, rfl⟩
          rw [hw4] at hown4 hup4 ⊢
          have hsz4 := hup4.size
          clear hown hup hw4 hbox hcell hb
          go_wp2_with (at_builtin; refine wp_appV rfl _ _ 22 28 rfl (w.heap.size + 1) (.int .u16 0) 2 Tryd.underlying22 Tryd.info28 rfl (by decide) _ q _ rfl (hown4.alloc _) (some ⟨w4.heap.size, 0, none⟩) 1 1 (us [y]) rfl rfl (us_one _) (vals_one _ _ _) (by omega) (by simp; simp at hsz4; omega) ?_; intro v1 w5 hown5 hgrow5)
          go_roundw
          case rel => exact ⟨k + 1, q + 1, ls ++ [y], by go_num, by omega, by omega, by rw [us_append]; exact hown5, HL4.out, up_append hup4 (by rw [show (w.alloc (.cells #[.int .u8 (b : Int), .slice (some ad) n c] 47)).heap.size = w.heap.size + 1 by simp]; exact hown4) hgrow5⟩
          case measure => simp [intOf]; omega
      · have HE : Hid (ls = cutS z l) := by show _ = _; rw [HL.out, List.take_of_length_le (by rw [← Hn.out]; omega)]
        have hge : decide (k < n) = false := decide_eq_false hlt
        obtain ⟨A3, c3, rfl, _, hV3, hl3, _⟩ := own_vals hown
        have hls : q = ls.length := by rw [← us_len ls]; exact hl3.symm
        have hsm : Small16 ls := by
          rw [HE.out]
          intro y hy
          have h1 := cutS_lt l y hy
          have : 2 ^ z ≤ 2 ^ 6 := Nat.pow_le_pow_right (by omega) hz6
          omega
        have hcall := rleast_any A3 q c3 ls wr hV3 hls hsm (by omega)
        obtain ⟨mm, Hm⟩ : ∃ mm, Hid (mm = minS ls) := ⟨_, rfl⟩
        rw [← Hm.out] at hcall
        clear hV3 hsm hl3 hown hls
        go_wp2_with fail
        refine hcall.mono ?_
        rintro e w3 ⟨v3, rfl, hown3, hup3⟩
        clear hcall
        go_wp2
        go_ret3
        exact ⟨v3, rfl, by rw [HD.out, ← HE.out, ← Hm.out]; exact own_mono hown3 hup0.size, hup0.trans hup3⟩
  · have d1 : decide (20 < (n : Int)) = true := decide_eq_true (by omega)
    have HD : Hid (drf b l = []) := by show _ = _; unfold drf; rw [if_pos (by rw [← Hn.out]; omega)]
    rw [decide_eq_false h20]
    clear h20
    go_enter Tryd.func36, Tryd.ntmps36
    go_wp2
    go_ret3
    exact ⟨.slice none 0 0, rfl, by rw [HD.out]; exact World.ownsRow_nil _ _ _ _, (Up.refl w).alloc _⟩
end Go.Proofs.YtfdlmgjjpcdkpaaDoor
