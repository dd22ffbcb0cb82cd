/- Walks: the different sets of a list in order; the minimal sets of a list. -/
import Derived.Test.YtfdlmgjjpcdkpaaDoorFv
import Derived.Laws.Rows
namespace Go.Proofs.YtfdlmgjjpcdkpaaDoor
open Go.RowKit Go.Sort

theorem zero_seen : Tryd.zeroCells73 = Array.replicate 4096 (.bool false) := by kernel_rfl
/-- The sets that have been seen. -/
def SeenAt (w : World) (g : Nat) (S : List Nat) : Prop := ∃ cs, w.heap[g]? = some (.cells cs 73 (0, 0)) ∧ cs.size = 4096 ∧ ∀ x, x < 4096 → cs[x]? = some (.bool (decide (x ∈ S)))
theorem SeenAt.lt {w : World} {g : Nat} {S : List Nat} (h : SeenAt w g S) : g < w.heap.size := by
  obtain ⟨cs, h1, _⟩ := h
  exact (Array.getElem?_eq_some_iff.1 h1).1
theorem SeenAt.cell {w : World} {g : Nat} {S : List Nat} (h : SeenAt w g S) {x : Nat} (hx : x < 4096) : w.cell? ⟨g, x, none⟩ = some (.bool (decide (x ∈ S))) := by
  obtain ⟨cs, h1, _, h3⟩ := h
  unfold World.cell?
  rw [h1]
  exact h3 x hx
theorem SeenAt.frozen {w : World} {g : Nat} {S : List Nat} (h : SeenAt w g S) (x : Nat) : w.frozen? ⟨g, x, none⟩ = false := by
  obtain ⟨cs, h1, _⟩ := h
  simp [World.frozen?, h1]
theorem SeenAt.kept {w w' : World} {g : Nat} {S : List Nat} {r : Option Nat} (h : SeenAt w g S) (hg : w.grownBy w' r) (hr : some g ≠ r) : SeenAt w' g S := by
  have hlt := h.lt
  obtain ⟨cs, h1, h2⟩ := h
  exact ⟨cs, (hg.block g hlt hr).trans h1, h2⟩
theorem SeenAt.set_ {w : World} {g : Nat} {S : List Nat} (h : SeenAt w g S) (x : Nat) : SeenAt (w.setCell ⟨g, x, none⟩ (.bool true)) g (S ++ [x]) := by
  obtain ⟨cs, h1, h2, h3⟩ := h
  refine ⟨cs.setIfInBounds x (.bool true), heap_setCell_same w g x cs _ _ h1, by rw [Array.size_setIfInBounds]; exact h2, fun y hy => ?_⟩
  rw [Array.getElem?_setIfInBounds]
  by_cases hxy : x = y
  · subst hxy
    rw [if_pos rfl, if_pos (by omega)]
    simp
  · rw [if_neg hxy, h3 y hy]
    congr 2
    rw [decide_eq_decide]
    simp [Ne.symm hxy]
theorem SeenAt.new (w : World) (cs : Array Value) (h : cs = Array.replicate 4096 (.bool false)) : SeenAt (w.alloc (.cells cs 73)) w.heap.size [] := by
  refine ⟨cs, World.alloc_heap_new w _, by rw [h, Array.size_replicate], fun x hx => ?_⟩
  rw [h, Array.getElem?_replicate, if_pos hx]
  rfl
theorem grow_set (w : World) (g x : Nat) (v : Value) : w.grownBy (w.setCell ⟨g, x, none⟩ v) (some g) :=
  ⟨rfl, rfl, rfl, (KeepsWalks.setCell w _ v).size, fun k _ hk => Below.heap_setCell _ _ _ k (fun e => hk (by rw [e]))⟩
theorem own_other {w w' : World} {base g n : Nat} {e : TypeId} {v : Value} {l : List Value} (h : w.ownsRow base e 1 v n l) (hg : w.grownBy w' (some g)) (hb : g < base) : w'.ownsRow base e 1 v n l := by
  by_cases hn : v.ownBlock = none
  · exact h.kept hg (.inl hn)
  · refine h.kept hg (.inr fun e => ?_)
    have := (h.lt g e).1
    omega
/-- The sets of a list in order, or the error. -/
def disE (l : List Nat) : List Nat × Int := if far l then ([], 7) else (srt l, 0)
set_option maxRecDepth 100000 in
set_option maxHeartbeats 2000000 in
theorem distinct_any (A : Option Addr) (n c : Nat) (l : List Nat) (w : World) (hA0 : Vals w A (us l)) (Hn : Hid (n = l.length)) (HS : Hid (Small16 l)) (hn : n ≤ 500000) :
    Calls Tryd.prog 43 #[.slice A n c] w (RetP w (disE l)) := by
  have HA := hide hA0
  clear hA0
  obtain ⟨P, HP⟩ : ∃ P : List Nat × Int, Hid (P = disE l) := ⟨_, rfl⟩
  rw [← HP.out]
  have H0 := hide (SeenAt.new w _ zero_seen)
  go_enter Tryd.func43, Tryd.ntmps43
  go_wp2
  obtain ⟨w0, hw0⟩ : ∃ w0, w.alloc (.cells Tryd.zeroCells73 73) = w0 := ⟨_, rfl⟩
  have hs0 : w0.heap.size = w.heap.size + 1 := by rw [← hw0]; simp
  have hu0 : Up w w0 := by rw [← hw0]; exact (Up.refl w).alloc _
  rw [hw0] at H0
  rw [hw0]
  clear hw0
  obtain ⟨g, hg⟩ : ∃ g, w.heap.size = g := ⟨_, rfl⟩
  rw [hg] at hs0 H0 ⊢
  have hl0 : Up w w0 := hu0
  go_loopw [5, 10] (fun v5 v10 wr => ∃ (k q : Nat) (ls : List Nat) (vv : Value), v10 = .int .i64 (k : Int) ∧ k ≤ n ∧ q ≤ k ∧ vv = v5 ∧ wr.ownsRow (g + 1) 28 1 v5 q (us ls) ∧ Hid (ls.Nodup ∧ ∀ x, x ∈ ls ↔ x ∈ l.take k) ∧ SeenAt wr g ls ∧ Hid (far (l.take k) = false) ∧ Up w wr) (fun _ v10 _ => n - (intOf v10).toNat)
  case atStart => exact ⟨0, 0, [], _, rfl, by omega, by omega, rfl, World.ownsRow_nil _ _ _ _, ⟨List.Pairwise.nil, by simp⟩, H0.out, rfl, hu0⟩
  case round =>
    obtain ⟨k, q, ls, vv, rfl, hk, hqk, hvv, hown, HL, hseen, HF, hup0⟩ := hrel
    subst hvv
    have hsz := hseen.lt
    by_cases hlt : k < n
    · have hk1 : k < l.length := by rw [← Hn.out]; exact hlt
      obtain ⟨x, Hx⟩ : ∃ x, Hid (x = l[k]'hk1) := ⟨_, rfl⟩
      have hv := us_at hk1
      rw [← Hx.out] at hv
      obtain ⟨ad, hAd, hb, hcell⟩ := (HA.out.up hup0).at_ hv
      subst hAd
      have HT : Hid (l.take (k + 1) = l.take k ++ [x]) := by
        show _ = _
        rw [List.take_add_one, List.getElem?_eq_getElem hk1, ← Hx.out]
        rfl
      have hin := inr_any x wr
      have hlt' : decide (k < n) = true := decide_eq_true hlt
      clear hv
      by_cases h40 : x < 4096
      · rw [decide_eq_true h40] at hin
        have HF2 : Hid (far (l.take (k + 1)) = false) := by
          show _ = _
          unfold far at HF ⊢
          rw [HT.out, List.any_append, HF.out]
          simp
          omega
        have hcs := hseen.cell h40
        have hfs := hseen.frozen x
        obtain ⟨b, Hb⟩ : ∃ b, Hid (decide (x ∈ ls) = b) := ⟨_, rfl⟩
        rw [Hb.out] at hcs
        cases b with
        | true =>
          have HL2 : Hid (ls.Nodup ∧ ∀ y, y ∈ ls ↔ y ∈ l.take (k + 1)) := by
            refine ⟨HL.out.1, fun y => ?_⟩
            rw [HT.out, List.mem_append, ← HL.out.2 y]
            have := of_decide_eq_true Hb.out
            constructor
            · exact .inl
            · rintro (h | h)
              · exact h
              · simp at h; rw [h]; exact this
          go_wp2_with fail
          refine hin.mono ?_
          rintro e w1 ⟨rfl, rfl⟩
          go_wp2
          go_roundw
          case rel => exact ⟨k + 1, q, ls, _, by go_num, by omega, by omega, rfl, hown, HL2.out, hseen, HF2.out, hup0⟩
          case measure => simp [intOf]; omega
        | false =>
          have hnm : x ∉ ls := of_decide_eq_false Hb.out
          have HL2 : Hid ((ls ++ [x]).Nodup ∧ ∀ y, y ∈ ls ++ [x] ↔ y ∈ l.take (k + 1)) := by
            refine ⟨?_, fun y => ?_⟩
            · rw [List.nodup_append]
              refine ⟨HL.out.1, by simp, ?_⟩
              rintro a ha b hb e
              simp at hb
              subst hb e
              exact hnm ha
            · rw [HT.out, List.mem_append, List.mem_append, ← HL.out.2 y]
          have hown2 := own_other hown (grow_set wr g x (.bool true)) (by omega)
          have hseen2 := hseen.set_ x
          have hsz2 : (wr.setCell ⟨g, x, none⟩ (.bool true)).heap.size = wr.heap.size := by simp
          have hv1 : Vals ((wr.setCell ⟨g, x, none⟩ (.bool true)).alloc (.cells #[.int .u16 (x : Int)] 28)) (some ⟨wr.heap.size, 0, none⟩) (us [x]) := by
            have := vals_one (wr.setCell ⟨g, x, none⟩ (.bool true)) (.int .u16 (x : Int)) 28
            rw [hsz2] at this
            exact this
          have HS2 := hide hseen2
          have HU := hide hup0
          have HO := hide hown2
          have HD := hide hown
          clear hnm hseen hseen2 hown hown2 hup0
          go_wp2_with fail
          refine hin.mono ?_
          rintro e w1 ⟨rfl, rfl⟩
          go_wp2_with (at_builtin; refine wp_appV rfl _ _ 22 28 rfl (g + 1) (.int .u16 0) 2 Tryd.underlying22 Tryd.info28 rfl (by decide) _ q _ rfl (HO.out.alloc _) (some ⟨w1.heap.size, 0, none⟩) 1 1 (us [x]) rfl rfl (us_one _) hv1 (by omega) (by simp; omega) ?_; intro v1 w3 hown3 hgrow3)
          go_roundw
          case rel =>
            refine ⟨k + 1, q + 1, ls ++ [x], _, by go_num, by omega, by omega, rfl, by rw [us_append]; exact hown3, HL2.out, (HS2.out.kept (World.grownBy_alloc _ _ none) (by simp)).kept hgrow3 (fun e => ?_), HF2.out, ?_⟩
            · have := (HD.out.lt g e.symm).1
              omega
            · exact ((HU.out.setCell (p := ⟨g, x, none⟩) (Nat.le_of_eq hg) _).alloc _).grown hgrow3 (fun j hj => by have := (HD.out.lt j hj).1; omega)
          case measure => simp [intOf]; omega
      · rw [decide_eq_false h40] at hin
        have HP2 : Hid (P = ([], 7)) := by
          show P = _
          rw [HP.out]
          unfold disE
          rw [if_pos]
          unfold far
          rw [List.any_eq_true]
          exact ⟨x, by rw [Hx.out]; exact List.getElem_mem hk1, by simp; omega⟩
        clear h40
        go_wp2_with fail
        refine hin.mono ?_
        rintro e w1 ⟨rfl, rfl⟩
        go_wp2
        go_ret2
        exact ⟨.slice none 0 0, by rw [HP2.out]; rfl, by rw [HP2.out]; exact World.ownsRow_nil _ _ _ _, hup0⟩
    · have HN : Hid (l.take k = l) := by show _ = _; rw [List.take_of_length_le (by rw [← Hn.out]; omega)]
      have HSM : Hid (Small16 ls) := by
        intro y hy
        have := (HL.out.2 y).1 hy
        rw [HN.out] at this
        exact HS.out y this
      have HSR : Hid (srt ls = srt l) := by
        refine inc_ext (srt_inc _) (srt_inc _) fun y => ?_
        rw [mem_srt, mem_srt, HL.out.2 y, HN.out]
      have HP2 : Hid (P = (srt l, 0)) := by
        show P = _
        rw [HP.out]
        unfold disE
        have := HF.out
        rw [HN.out] at this
        rw [if_neg (by rw [this]; simp)]
      have hge : decide (k < n) = false := decide_eq_false hlt
      have hsort := sort_any vv q (g + 1) ls wr hown HSM.out HL.out.1 (by omega)
      rw [HSR.out] at hsort
      have HD := hide hown
      clear hown hseen
      go_wp2_with fail
      refine hsort.mono ?_
      rintro e w2 ⟨rfl, hown2, hgr⟩
      have hlen := own_len hown2
      have HO := hide (own_mono hown2 (show g ≤ g + 1 by omega))
      have hup2 : Up w w2 := hup0.grown hgr (fun j hj => by have := (HD.out.lt j hj).1; omega)
      clear hown2 hgr hsort
      go_wp2
      go_ret2
      exact ⟨_, by rw [HP2.out]; rfl, by rw [HP2.out]; show w2.ownsRow _ _ 1 _ (srt l).length (us (srt l)); rw [hlen, hg]; exact HO.out, hup2⟩
end Go.Proofs.YtfdlmgjjpcdkpaaDoor
