/- Walks: the reference on families: the sets of a list in order. -/
import Derived.Test.YtfdlmgjjpcdkpaaDoorFs
namespace Go.Proofs.YtfdlmgjjpcdkpaaDoor
open Go.RowKit

/-- Where a set is put into a list in order. -/
theorem ins_at : ∀ (out : List Nat) (x k : Nat), k ≤ out.length → (∀ (i : Nat) (h : i < out.length), i < k → bef (out[i]'h) x = true) → (∀ h : k < out.length, bef (out[k]'h) x = false) →
    ins x out = if h : k < out.length then (if out[k]'h = x then out else out.take k ++ x :: out.drop k) else out ++ [x] := by
  intro out x
  induction out with
  | nil => intro k _ _ _; rfl
  | cons y r ih =>
    intro k hk hb ha
    cases k with
    | zero =>
      have h0 := ha (by simp)
      simp only [List.getElem_cons_zero] at h0
      rw [ins, h0]
      simp
    | succ k =>
      have h0 := hb 0 (by simp) (by omega)
      simp only [List.getElem_cons_zero] at h0
      rw [ins, if_pos h0, ih k (by simpa using hk) (fun i h hi => by have := hb (i + 1) (by simpa using h) (by omega); simpa using this) (fun h => by have := ha (by simpa using h); simpa using this)]
      by_cases h : k < r.length
      · rw [dif_pos h, dif_pos (by simpa using h)]
        simp only [List.getElem_cons_succ]
        split
        · rfl
        · simp
      · rw [dif_neg h, dif_neg (by simpa using h)]
        rfl
theorem shift_set {out : List Nat} {j z : Nat} (hj : j < out.length) : (out.take (j + 1) ++ z :: out.drop (j + 1)).set (j + 1) (out[j]'hj) = out.take j ++ (out[j]'hj) :: out.drop j := by
  have hl : (out.take (j + 1)).length = j + 1 := by rw [List.length_take]; omega
  rw [List.set_append_right _ _ (by omega), hl, Nat.sub_self, List.set_cons_zero]
  have e := List.drop_eq_getElem_cons hj
  rw [e, List.take_add_one, List.getElem?_eq_getElem hj]
  show (out.take j ++ [out[j]]) ++ _ = _
  rw [List.append_assoc]
  rfl
theorem shift_get {out : List Nat} {j z : Nat} (hj : j < out.length) : (out.take (j + 1) ++ z :: out.drop (j + 1))[j]? = some (out[j]'hj) := by
  have hl : (out.take (j + 1)).length = j + 1 := by rw [List.length_take]; omega
  rw [List.getElem?_append_left (by omega), List.getElem?_take, if_pos (by omega), List.getElem?_eq_getElem hj]
theorem put_set {out : List Nat} {k z x : Nat} (hk : k ≤ out.length) : (out.take k ++ z :: out.drop k).set k x = out.take k ++ x :: out.drop k := by
  have hl : (out.take k).length = k := by rw [List.length_take]; omega
  rw [List.set_append_right _ _ (by omega), hl, Nat.sub_self, List.set_cons_zero]
/-- What returns a list of sets that the call has made. -/
def RetL (w : World) (l : List Nat) (e : Ending) (w' : World) : Prop := ∃ v, e = .returned v ∧ w'.ownsRow w.heap.size 28 1 v l.length (us l) ∧ Up w w'
/-- .. and an error. -/
def RetP (w : World) (p : List Nat × Int) (e : Ending) (w' : World) : Prop := ∃ v, e = .returned (.tuple #[v, .int .i64 p.2]) ∧ w'.ownsRow w.heap.size 28 1 v p.1.length (us p.1) ∧ Up w w'
theorem us_snoc (l : List Nat) (x : Nat) : us l ++ us [x] = us (l ++ [x]) := (us_append l [x]).symm
set_option maxRecDepth 100000 in
set_option maxHeartbeats 8000000 in
theorem rsorted_any (A : Option Addr) (n c : Nat) (l : List Nat) (w : World) (hA0 : Vals w A (us l)) (Hn : Hid (n = l.length)) (HS : Hid (Small16 l)) (hn : n ≤ 500000) :
    Calls Tryd.prog 67 #[.slice A n c] w (RetL w (srt l)) := by
  have HA := hide hA0
  clear hA0
  obtain ⟨S, HSS⟩ : ∃ S, Hid (S = srt l) := ⟨_, rfl⟩
  rw [← HSS.out]
  go_enter Tryd.func67, Tryd.ntmps67
  go_wp2
  go_loopw [3, 4] (fun v3 v4 wr => ∃ (k m : Nat) (out : List Nat), v4 = .int .i64 (k : Int) ∧ k ≤ n ∧ m ≤ k ∧ wr.ownsRow w.heap.size 28 1 v3 m (us out) ∧ Hid (out = srt (l.take k)) ∧ Hid (out.length = m) ∧ Up w wr) (fun _ v4 _ => n - (intOf v4).toNat)
  case atStart => exact ⟨0, 0, [], rfl, by omega, by omega, World.ownsRow_nil _ _ _ _, rfl, rfl, Up.refl _⟩
  case round =>
    obtain ⟨k, m, out, rfl, hk, hmk, hown, HX, HM, hup⟩ := hrel
    by_cases hlt : k < n
    · have hk1 : k < l.length := by rw [← Hn.out]; exact hlt
      obtain ⟨x, Hx⟩ : ∃ x, Hid (x = l[k]'hk1) := ⟨_, rfl⟩
      have hx16 : x < 65536 := by rw [Hx.out]; exact HS.out _ (List.getElem_mem hk1)
      have hv := us_at hk1
      rw [← Hx.out] at hv
      have HT : Hid (srt (l.take (k + 1)) = ins x out) := by
        show _ = _
        rw [List.take_add_one, List.getElem?_eq_getElem hk1, ← Hx.out]
        show srt (l.take k ++ [x]) = _
        rw [srt_snoc, HX.out]
      have HO : Hid (∀ y ∈ out, y < 65536) := by
        show ∀ y ∈ out, y < 65536
        intro y hy
        rw [HX.out] at hy
        exact HS.out y (List.mem_of_mem_take ((mem_srt _ _).1 hy))
      obtain ⟨A3, c3, rfl, hc3, hV3, _, _⟩ := own_vals hown
      have hlt' : decide (k < n) = true := decide_eq_true hlt
      go_wp2
      go_loopw [5] (fun v5 wy => ∃ i : Nat, v5 = .int .i64 (i : Int) ∧ i ≤ m ∧ Hid (∀ (a : Nat) (h : a < out.length), a < i → bef (out[a]'h) x = true) ∧ wy.ownsRow w.heap.size 28 1 (.slice A3 m c3) m (us out) ∧ Vals wy A3 (us out) ∧ Up w wy) (fun v5 _ => m - (intOf v5).toNat)
      case atStart => exact ⟨0, rfl, by omega, fun a h ha => by omega, hown, hV3, hup⟩
      case round =>
        obtain ⟨i, rfl, hi, HB, hown1, hV1, hup1⟩ := hrel
        obtain ⟨ad, hAd, hb, hcell⟩ := (HA.out.up hup1).at_ hv
        subst hAd
        by_cases him : i < m
        · have hi1 : i < out.length := by rw [HM.out]; exact him
          obtain ⟨y, Hy⟩ : ∃ y, Hid (y = out[i]'hi1) := ⟨_, rfl⟩
          have hy16 : y < 65536 := by rw [Hy.out]; exact HO.out _ (List.getElem_mem hi1)
          have hv2 := us_at hi1
          rw [← Hy.out] at hv2
          obtain ⟨ad3, hA3, hb3, hcell3⟩ := hV1.at_ hv2
          subst hA3
          have hcall := fun w => rbef_any y x w hy16 hx16
          have HBE : Hid (∀ b, bef y x = b → bef (out[i]'hi1) x = b) := by intro b hb; rw [← Hy.out]; exact hb
          obtain ⟨b, hbb⟩ : ∃ b, bef y x = b := ⟨_, rfl⟩
          rw [hbb] at hcall
          replace HBE := hide (HBE.out b hbb)
          have dm : decide (i < m) = true := decide_eq_true him
          have HYX : Hid (y = x ∨ y ≠ x) := Classical.em _
          clear hv2 hbb
          go_wp2
          go_quiet ((go_at_call 41; with_reducible exact Calls.quiet_of_same (hcall _)))
          have hown2 : (wr.drewN nq).ownsRow w.heap.size 28 1 (.slice (some ad3) m c3) m (us out) := own_up hown1 ((Up.refl wr).drewN nq)
          have hV2 : Vals (wr.drewN nq) (some ad3) (us out) := hV1.up ((Up.refl wr).drewN nq)
          have hup2 : Up w (wr.drewN nq) := hup1.drewN nq
          cases b with
          | true =>
            have HB2 : Hid (∀ (a : Nat) (h : a < out.length), a < i + 1 → bef (out[a]'h) x = true) := by
              intro a h ha
              by_cases hai : a < i
              · exact HB.out a h hai
              · have : a = i := by omega
                subst this
                exact HBE.out
            go_wp2
            go_roundw
            case rel => exact ⟨i + 1, by go_num, by omega, HB2.out, hown2, hV2, hup2⟩
            case measure => simp [intOf]; omega
          | false =>
            have HINS : Hid (ins x out = if out[i]'hi1 = x then out else out.take i ++ x :: out.drop i) := by
              show _ = _
              rw [ins_at out x i (by omega) HB.out (fun _ => HBE.out), dif_pos hi1]
            obtain ⟨w2, hw2⟩ : ∃ w2, wr.drewN nq = w2 := ⟨_, rfl⟩
            have hc2 : w2.cell? (ad3.add i) = some (.int .u16 (y : Int)) := by rw [← hw2]; exact hcell3
            have hx2 : w2.cell? (ad.add k) = some (.int .u16 (x : Int)) := by rw [← hw2]; exact hcell
            rw [hw2] at hown2 hV2 hup2 ⊢
            clear hown1 hV1 hcall hup1 hcell hcell3 hb3 hb hw2
            go_wp2
            rcases HYX.out with hyx | hyx
            · have q : ((y : Int) == (x : Int)) = true := by rw [beq_iff_eq]; omega
              have HR : Hid (out = srt (l.take (k + 1))) := by
                show _ = _
                rw [HT.out, HINS.out, if_pos (by rw [← Hy.out]; exact hyx)]
              clear hyx
              go_quiet (fail)
              go_wp2
              go_roundw
              case rel => exact ⟨k + 1, m, out, by go_num, by omega, by omega, own_up hown2 ((Up.refl _).drewN _), HR.out, HM.out, hup2.drewN _⟩
              case measure => simp [intOf]; omega
            · have q : ((y : Int) == (x : Int)) = false := by rw [beq_eq_false_iff_ne]; omega
              have HR : Hid (out.take i ++ x :: out.drop i = srt (l.take (k + 1))) := by
                show _ = _
                rw [HT.out, HINS.out, if_neg (by rw [← Hy.out]; exact hyx)]
              clear hyx HINS HT
              go_quiet (fail)
              have hown4 := own_up hown2 ((Up.refl w2).drewN nq)
              have hup4 := hup2.drewN nq
              obtain ⟨w4, hw4⟩ : ∃ w4, w2.drewN nq = w4 := ⟨_, rfl⟩
              rw [hw4] at hown4 hup4 ⊢
              have hsz4 := hup4.size
              clear hown2 hV2 hup2 hc2 hx2 hw4
              go_wp2_with (at_builtin; refine wp_appV rfl _ _ 22 28 rfl w.heap.size (.int .u16 0) 2 Tryd.underlying22 Tryd.info28 rfl (by decide) _ m _ rfl (hown4.alloc _) (some ⟨w4.heap.size, 0, none⟩) 1 1 (us [0]) rfl rfl (us_one _) (vals_one _ _ _) (by omega) (by simp; omega) ?_; intro v1 w5 hown5 hgrow5; obtain ⟨g, c5, rfl, hg, hgl, hmc⟩ := own_form hown5 (by omega))
              have hup5 : Up w w5 := up_append hup4 hown4 hgrow5
              rw [us_snoc] at hown5
              clear hgrow5 hown4
              go_loopw [6] (fun v6 wz => ∃ j z : Nat, v6 = .int .i64 (j : Int) ∧ i ≤ j ∧ j ≤ m ∧ wz.ownsRow w.heap.size 28 1 (.slice (some ⟨g, 0, none⟩) (m + 1) c5) (m + 1) (us (out.take j ++ z :: out.drop j)) ∧ Up w wz) (fun v6 _ => (intOf v6).toNat)
              case atStart => exact ⟨m, 0, by go_num, by omega, by omega, by rw [← HM.out, List.take_length, List.drop_length, HM.out]; exact hown5, hup5⟩
              case round =>
                obtain ⟨j, z, rfl, hij, hjm, hown6, hup6⟩ := hrel
                have hfz := fun a => own_frozen hown6 a
                obtain ⟨ad6, hAd6, hb6, hcell6⟩ := (HA.out.up hup6).at_ hv
                injection hAd6 with hAd6
                subst hAd6
                have hcz : wr.cell? ⟨g, j, none⟩ = some (.int .u16 (z : Int)) := own_at hown6 (by rw [List.getElem?_append_right (by rw [List.length_take]; omega), List.length_take, Nat.min_eq_left (by have := HM.out; omega), Nat.sub_self]; rfl)
                by_cases hd : i < j
                · obtain ⟨jj, hjj⟩ : ∃ jj, j = jj + 1 := ⟨j - 1, by omega⟩
                  have hjo : jj < out.length := by have := HM.out; omega
                  obtain ⟨u, Hu⟩ : ∃ u, Hid (u = out[jj]'hjo) := ⟨_, rfl⟩
                  have hcu : wr.cell? ⟨g, jj, none⟩ = some (.int .u16 (u : Int)) := own_at hown6 (by rw [hjj, shift_get hjo, Hu.out])
                  have hown7 := own_set hown6 j u
                  have HSET : Hid ((out.take j ++ z :: out.drop j).set j u = out.take jj ++ u :: out.drop jj) := by show _ = _; rw [hjj, Hu.out]; exact shift_set hjo
                  rw [HSET.out] at hown7
                  have e1 : (j : Int) - 1 = (jj : Int) := by omega
                  have hjj2 : i ≤ jj := by omega
                  have hjj3 : jj < m := by omega
                  have dd : decide (i < j) = true := decide_eq_true hd
                  have hup7 : Up w (wr.setCell ⟨g, j, none⟩ (.int .u16 (u : Int))) := hup6.setCell hg _
                  clear hjj HSET hown6
                  go_wp2
                  go_roundw
                  case rel => exact ⟨jj, u, by go_num, hjj2, by omega, hown7, hup7⟩
                  case measure => simp [intOf]; omega
                · obtain rfl : j = i := by omega
                  have hown7 := own_set hown6 j x
                  have HSET : Hid ((out.take j ++ z :: out.drop j).set j x = out.take j ++ x :: out.drop j) := put_set (by have := HM.out; omega)
                  rw [HSET.out, HR.out] at hown7
                  have dd : decide (j < j) = false := decide_eq_false (by omega)
                  have HL : Hid ((srt (l.take (k + 1))).length = m + 1) := by show _ = _; rw [← HR.out]; simp; have := HM.out; omega
                  have hup7 : Up w (wr.setCell ⟨g, j, none⟩ (.int .u16 (x : Int))) := hup6.setCell hg _
                  clear HSET hown6
                  go_wp2
                  go_roundw
                  case rel => exact ⟨k + 1, m + 1, srt (l.take (k + 1)), by go_num, by omega, by omega, hown7, rfl, HL.out, hup7⟩
                  case measure => simp [intOf]; omega
        · have dm : decide (i < m) = false := decide_eq_false him
          have HR : Hid (out.take i ++ x :: out.drop i = srt (l.take (k + 1))) := by
            show _ = _
            have hil : i = out.length := by rw [HM.out]; omega
            rw [HT.out, ins_at out x i (by omega) HB.out (fun h => by omega), dif_neg (by omega), hil, List.take_length, List.drop_length]
          clear HT
          go_wp2
          go_quiet (fail)
          have hown2 := own_up hown1 ((Up.refl wr).drewN nq)
          have hup2 := hup1.drewN nq
          obtain ⟨w2, hw2⟩ : ∃ w2, wr.drewN nq = w2 := ⟨_, rfl⟩
          rw [hw2] at hown2 hup2 ⊢
          clear hown1 hV1 hup1 hcell hb hw2
          go_wp2
          go_quiet (fail)
          have hown4 := own_up hown2 ((Up.refl w2).drewN nq)
          have hup4 := hup2.drewN nq
          obtain ⟨w4, hw4⟩ : ∃ w4, w2.drewN nq = w4 := ⟨_, rfl⟩
          rw [hw4] at hown4 hup4 ⊢
          have hsz4 := hup4.size
          clear hown2 hup2 hw4
          go_wp2_with (at_builtin; refine wp_appV rfl _ _ 22 28 rfl w.heap.size (.int .u16 0) 2 Tryd.underlying22 Tryd.info28 rfl (by decide) _ m _ rfl (hown4.alloc _) (some ⟨w4.heap.size, 0, none⟩) 1 1 (us [0]) rfl rfl (us_one _) (vals_one _ _ _) (by omega) (by simp; omega) ?_; intro v1 w5 hown5 hgrow5; obtain ⟨g, c5, rfl, hg, hgl, hmc⟩ := own_form hown5 (by omega))
          have hup5 : Up w w5 := up_append hup4 hown4 hgrow5
          rw [us_snoc] at hown5
          clear hgrow5 hown4
          go_loopw [6] (fun v6 wz => ∃ j z : Nat, v6 = .int .i64 (j : Int) ∧ i ≤ j ∧ j ≤ m ∧ wz.ownsRow w.heap.size 28 1 (.slice (some ⟨g, 0, none⟩) (m + 1) c5) (m + 1) (us (out.take j ++ z :: out.drop j)) ∧ Up w wz) (fun v6 _ => (intOf v6).toNat)
          case atStart => exact ⟨m, 0, by go_num, by omega, by omega, by rw [← HM.out, List.take_length, List.drop_length, HM.out]; exact hown5, hup5⟩
          case round =>
            obtain ⟨j, z, rfl, hij, hjm, hown6, hup6⟩ := hrel
            have hfz := fun a => own_frozen hown6 a
            obtain ⟨ad6, hAd6, hb6, hcell6⟩ := (HA.out.up hup6).at_ hv
            injection hAd6 with hAd6
            subst hAd6
            have hcz : wr.cell? ⟨g, j, none⟩ = some (.int .u16 (z : Int)) := own_at hown6 (by rw [List.getElem?_append_right (by rw [List.length_take]; omega), List.length_take, Nat.min_eq_left (by have := HM.out; omega), Nat.sub_self]; rfl)
            by_cases hd : i < j
            · exfalso; omega
            · obtain rfl : j = i := by omega
              have hown7 := own_set hown6 j x
              have HSET : Hid ((out.take j ++ z :: out.drop j).set j x = out.take j ++ x :: out.drop j) := put_set (by have := HM.out; omega)
              rw [HSET.out, HR.out] at hown7
              have dd : decide (j < j) = false := decide_eq_false (by omega)
              have HL : Hid ((srt (l.take (k + 1))).length = m + 1) := by show _ = _; rw [← HR.out]; simp; have := HM.out; omega
              have hup7 : Up w (wr.setCell ⟨g, j, none⟩ (.int .u16 (x : Int))) := hup6.setCell hg _
              clear HSET hown6
              go_wp2
              exact ⟨⟨k + 1, m + 1, srt (l.take (k + 1)), by go_num, by omega, by omega, hown7, rfl, HL.out, hup7⟩, by simp [intOf]; omega⟩
    · have HE : Hid (S = out) := by show S = out; rw [HX.out, HSS.out, List.take_of_length_le (by rw [← Hn.out]; omega)]
      have hge : decide (k < n) = false := decide_eq_false hlt
      go_wp2
      go_ret
      exact ⟨_, rfl, by rw [HE.out, HM.out]; exact hown, hup⟩
end Go.Proofs.YtfdlmgjjpcdkpaaDoor
