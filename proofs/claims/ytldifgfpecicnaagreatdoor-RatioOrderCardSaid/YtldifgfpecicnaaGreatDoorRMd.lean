/- Drafts: which integer, which fraction they make. -/
import Derived.Test.YtldifgfpecicnaaGreatDoorRInv
namespace Go.Proofs.YtldifgfpecicnaaGreatDoor
open Go.RowKit

/-- The limbs that Made takes of a draft. -/
def mdl (l : List Nat) : Nat → List Nat
  | 0 => []
  | k + 1 => mdl l k ++ [if k = 33 then l.getD k 0 % 1000000000 % 1000 else l.getD k 0 % 1000000000]
theorem mdl_33 {l : List Nat} {k : Nat} (h : k = 33) : mdl l (k + 1) = mdl l k ++ [l.getD k 0 % 1000000000 % 1000] := by rw [mdl, if_pos h]
theorem mdl_no {l : List Nat} {k : Nat} (h : k ≠ 33) : mdl l (k + 1) = mdl l k ++ [l.getD k 0 % 1000000000] := by rw [mdl, if_neg h]
/-- The integer of a draft. -/
def mdZ (s : Bool) (l : List Nat) : Int := sgn s (val (mdl l (min l.length 34)))
set_option maxRecDepth 100000 in
set_option maxHeartbeats 4000000 in
theorem made_det (s : Bool) (A : Option Addr) (n c : Nat) (l : List Nat) (w : World) (hl : Lim w A l) (hw : W32 l) (Hn : Hid (n = l.length)) (hn : n ≤ 9223372036854775807) :
    Calls Tryz.prog 57 #[.agg #[.bool s, .slice A n c]] w (PI w (mdZ s l)) := by
  obtain ⟨w0, hw0⟩ : ∃ w0, w0 = ((w.alloc (.cells #[.bool s, .slice A n c] 37)).alloc (.cells #[.bool false, .slice none 0 0] 24)) := ⟨_, rfl⟩
  have hb1 : Bk w0 (w.heap.size) 37 #[.bool s, .slice A n c] := by
    have := (Bk.new w 37 #[.bool s, .slice A n c]).alloc (.cells #[.bool false, .slice none 0 0] 24)
    rw [hw0]; simpa using this
  have hb2 : Bk w0 (w.heap.size + 1) 24 #[.bool false, .slice none 0 0] := by
    have := Bk.new (w.alloc (.cells #[.bool s, .slice A n c] 37)) 24 #[.bool false, .slice none 0 0]
    rw [hw0]; simpa using this
  have hup0 : Up w w0 := by rw [hw0]; exact ((Up.refl w).alloc _).alloc _
  have hsz0 : w.heap.size + 2 ≤ w0.heap.size := by rw [hw0]; simp
  have Hw0 := hide hw0
  clear hw0
  have e1a := hb1.cell (i := 0) rfl
  have e1b := hb1.cell (i := 1) rfl
  have e2a := hb2.cell (i := 0) rfl
  have e2b := hb2.cell (i := 1) rfl
  go_enter Tryz.func57, Tryz.ntmps57
  go_wp2_with fail
  rw [← Hw0.out]
  go_loopw [3, 4] (fun v i wr => ∃ (k : Nat) (o : List Nat), i = .int .i64 k ∧ k ≤ n ∧ k ≤ 34 ∧ Own wr w0.heap.size v k o ∧ Dig o ∧ (33 < k → o.getD 33 0 < 1000) ∧ Up w0 wr ∧ Hid (o = mdl l k)) (fun _ i _ => 34 - (intOf i).toNat)
  case atStart => exact ⟨0, [], rfl, by omega, by omega, Own.nil _ _, (fun x hx => by cases hx), (by omega), Up.refl _, rfl⟩
  case round =>
    obtain ⟨k, o, rfl, hkn, hk34, hown, hdo, htop, hup, HOD⟩ := hrel
    have g1 := hup.keep e1a
    have g2 := hup.keep e1b
    have hsz1 := hup.size
    have hTOP := hide htop
    clear htop
    by_cases hgo : k < n ∧ k < 34
    · obtain ⟨h1, h2⟩ := hgo
      obtain ⟨ad, rfl, hb, hcell⟩ := (hl.up (hup0.trans hup)).at_ (k := k) (by rw [← Hn.out]; exact h1)
      have hy := W32.getD hw k
      obtain ⟨y, Hy⟩ : ∃ y, Hid (y = l.getD k 0) := ⟨_, rfl⟩
      rw [← Hy.out] at hcell hy
      have hone : ∀ (x : Nat) (z : Int), z = (x : Int) → Lim (wr.alloc (.cells #[.int .u32 z] 91)) (some ⟨wr.heap.size, 0, none⟩) [x] := fun x z hz => by
        subst hz
        exact Or.inr ⟨_, rfl, by simp, fun j u hj => by match j, hj with | 0, hj => (simp at hj; subst hj; exact cell_new _ _ _)⟩
      have HONE := hide hone
      clear hone
      by_cases h33 : k = 33
      · have hb33 : ((k : Int) == 33) = true := by rw [h33]; rfl
        have H33 := hide h33
        clear h33
        go_wp2_with (at_builtin; refine wp_app rfl _ _ rfl w0.heap.size _ k o rfl (hown.up ((Up.refl wr).alloc _)) (some ⟨wr.heap.size, 0, none⟩) 1 1 [y % 1000000000 % 1000] rfl rfl (HONE.out _ _ (by omega)) (by omega) (by simp; omega) ?_; intro v1 w1 hown1 hg1)
        go_roundw
        case rel => exact ⟨k + 1, o ++ [y % 1000000000 % 1000], by go_num, by omega, by omega, hown1, dig_snoc hdo (by omega), (fun _ => by have h5 := hown.len; have h6 := H33.out; simp [List.getD, h5, h6]; omega), (hup.alloc _).grown hg1 (fun j hj => (hown.lt j hj).1), by show _ = _; rw [HOD.out, Hy.out]; exact (mdl_33 H33.out).symm⟩
        case measure => simp [intOf]; omega
      · have hb33 : ((k : Int) == 33) = false := by rw [beq_eq_false_iff_ne]; omega
        have H33 := hide h33
        clear h33
        go_wp2_with (at_builtin; refine wp_app rfl _ _ rfl w0.heap.size _ k o rfl (hown.up ((Up.refl wr).alloc _)) (some ⟨wr.heap.size, 0, none⟩) 1 1 [y % 1000000000] rfl rfl (HONE.out _ _ (by omega)) (by omega) (by simp; omega) ?_; intro v1 w1 hown1 hg1)
        go_roundw
        case rel => exact ⟨k + 1, o ++ [y % 1000000000], by go_num, by omega, by omega, hown1, dig_snoc hdo (by omega), (fun h => by have := H33.out; omega), (hup.alloc _).grown hg1 (fun j hj => (hown.lt j hj).1), by show _ = _; rw [HOD.out, Hy.out]; exact (mdl_no H33.out).symm⟩
        case measure => simp [intOf]; omega
    · have hlen := hown.len
      have hval : Hid (val o < top300) := by
        show val o < top300
        rcases Nat.lt_or_ge k 34 with h | h
        · have h1 := val_lt hdo
          have h2 : bas o.length ≤ bas 33 := bas_mono (by omega)
          unfold top300; omega
        · have h1 := val_split o (k := 33) (by omega)
          rw [List.drop_eq_nil_of_le (by omega), val, Nat.mul_zero, Nat.add_zero] at h1
          have h2 := val_lt (dig_take hdo 33)
          rw [List.length_take, Nat.min_eq_left (by omega)] at h2
          have h3 := hTOP.out (by omega)
          have h4 : bas 33 * o.getD 33 0 ≤ bas 33 * 999 := Nat.mul_le_mul_left _ (by omega)
          unfold top300; omega
      have HLEN := hide hlen
      clear hlen
      obtain ⟨A3, c3, rfl, hc3, hl3, _⟩ := hown.lim
      have key : ∀ w1, Up w0 w1 → Lim w1 A3 o → Calls Tryz.prog 84 #[.bool s, .slice A3 k c3] w1 fun e w2 => ∃ (s2 : Bool) (A2 : Option Addr) (n2 c2 : Nat) (z : Int), e = .returned (.tuple #[.agg #[.bool s2, .slice A2 n2 c2], .int .i64 0]) ∧ Hid (s2 = decide (z < 0)) ∧ Hid (n2 = (lim z.natAbs).length) ∧ Lim w2 A2 (lim z.natAbs) ∧ n2 ≤ c2 ∧ NewB (w.heap.size + 1 + 1) A2 ∧ Up w w2 ∧ Bk w2 (w.heap.size + 1) 24 #[.bool false, .slice none 0 0] ∧ z.natAbs < top300 ∧ Hid (z = sgn s (val o)) := by
        intro w1 hup1 hl4
        refine (make_any s A3 c3 o w1 hl4 hdo k HLEN.out.symm (by omega)).mono ?_
        rintro e w2 ⟨v2, rfl, hv2, hup2⟩
        have hz : (sgn s (val o)).natAbs < top300 := by rw [sgn_abs]; exact hval.out
        rw [(bnd_ok hz).1] at hv2
        rw [(bnd_ok hz).2]
        obtain ⟨s2, A2, n2, c2, rfl, Hs2, Hn2, hl2, hc2, hnew2⟩ := hv2
        exact ⟨s2, A2, n2, c2, _, rfl, Hs2, Hn2, hl2, hc2, hnew2.mono (by have := hup1.size; omega), (hup0.trans hup1).trans hup2, (hb2.up hup1).up hup2, hz, rfl⟩
      have KEY := hide key
      clear key hown
      have fin : Calls Tryz.prog 84 #[.bool s, .slice A3 k c3] wr _ := KEY.out wr hup hl3
      have FIN := hide fin
      clear fin hb1 hb2 e2a e2b
      rcases (show (k < n ∧ 34 ≤ k) ∨ n ≤ k by omega) with ⟨hlt, h34⟩ | hlt
      all_goals
        have hge : ¬ (k < n ∧ k < 34) := hgo
        have HGO := hide hge
        clear hge hgo
        go_wp2_with fail
        refine FIN.out.mono ?_
        rintro e w2 ⟨s2, A2, n2, c2, z, rfl, Hs2, Hn2, hl2, hc2, hnew2, hup2, hbz, hzt, HZ⟩
        have f1 := hbz.cell (i := 0) rfl
        have f2 := hbz.cell (i := 1) rfl
        have f3 := hbz.frozen 0
        have f4 := hbz.frozen 1
        have f5 := hbz.lt
        have HQ := hide (fun o => ((hbz.two_bk (.bool s2) (.slice A2 n2 c2)).alloc o).cell (i := 0) rfl)
        have HQ2 := hide (fun o => ((hbz.two_bk (.bool s2) (.slice A2 n2 c2)).alloc o).cell (i := 1) rfl)
        go_wp2
        refine bodyPost_ret (v := .agg #[.bool s2, .slice A2 n2 c2]) (by simp [results, Tryz.results57, go_sem, HQ.out, HQ2.out]) rfl ⟨_, rfl, (Iz.of (B := w.heap.size) (z := z) ⟨s2, A2, n2, c2, rfl, Hs2, Hn2, (hl2.two hnew2 _ _).up ((Up.refl _).alloc _), hc2, hnew2.mono (by omega)⟩ hzt).congr (by rw [HZ.out, HOD.out]; unfold mdZ; rw [show k = min l.length 34 by have := HGO.out; have := Hn.out; omega]), (hup2.two (by omega) _ _).alloc _⟩
/-- A draft of the integer z. -/
def Rd (w : World) (v : Value) (z : Int) : Prop := ∃ s A n c l, v = .agg #[.bool s, .slice A n c] ∧ Lim w A l ∧ W32 l ∧ Hid (n = l.length) ∧ n ≤ 9223372036854775807 ∧ Hid (z = mdZ s l)
section
variable {w w' : World} {x : Value} {z : Int} {g : Nat}
theorem Rd.up (h : Rd w x z) (hu : Up w w') : Rd w' x z := by
  obtain ⟨s, A, n, c, l, rfl, h1, h2⟩ := h
  exact ⟨s, A, n, c, l, rfl, h1.up hu, h2⟩
theorem Rd.st2 {t : TypeId} {cs : Array Value} (h : Rd w x z) (hb : Bk w g t cs) (hn : NoU cs) (p q : Value) : Rd ((w.setCell ⟨g, 0, none⟩ p).setCell ⟨g, 1, none⟩ q) x z := by
  obtain ⟨s, A, n, c, l, rfl, h1, h2⟩ := h
  exact ⟨s, A, n, c, l, rfl, h1.st2 hb hn p q, h2⟩
theorem Rd.st4 {t : TypeId} {cs : Array Value} (h : Rd w x z) (hb : Bk w g t cs) (hn : NoU cs) (p q r u : Value) : Rd (Go.Proofs.YtldifgfpecicnaaGreatDoor.st4 w g p q r u) x z := by
  obtain ⟨s, A, n, c, l, rfl, h1, h2⟩ := h
  exact ⟨s, A, n, c, l, rfl, h1.st4 hb hn p q r u, h2⟩
theorem Rd.agg (h : Rd w x z) : ∃ s A n c, x = .agg #[.bool s, .slice A n c] := by
  obtain ⟨s, A, n, c, l, rfl, _⟩ := h
  exact ⟨s, A, n, c, rfl⟩
theorem RawIn.rd (h : RawIn w x) : ∃ z, Rd w x z := by
  obtain ⟨s, A, n, c, l, rfl, h1, h2, h3, h4, _⟩ := h
  exact ⟨_, s, A, n, c, l, rfl, h1, h2, h3, h4, rfl⟩
theorem madeZ (h : Rd w x z) : Calls Tryz.prog 57 #[x] w (PI w z) := by
  obtain ⟨s, A, n, c, l, rfl, h1, h2, h3, h4, h5⟩ := h
  rw [h5.out]
  exact made_det s A n c l w h1 h2 h3 h4
theorem rmakeZ {v v' : Value} {y : Int} (h : Iz w v z) (h' : Iz w v' y) (hy : y ≠ 0) : Calls Tryz.prog 15 #[v, v'] w fun e w' => ∃ u, e = .returned (.tuple #[u, .int .i64 0]) ∧ Rz w' u (fr z y) ∧ Up w w' := by
  refine (rmakeQ h h').mono ?_
  unfold makeR
  rw [if_neg hy]
  rintro e w1 ⟨v, rfl, hv, hup⟩
  exact ⟨v, rfl, hv, hup⟩
end
def PRz (w : World) (r : Rat) (e : Ending) (w' : World) : Prop := ∃ v, e = .returned v ∧ Rz w' v r ∧ Up w w'
end Go.Proofs.YtldifgfpecicnaaGreatDoor
