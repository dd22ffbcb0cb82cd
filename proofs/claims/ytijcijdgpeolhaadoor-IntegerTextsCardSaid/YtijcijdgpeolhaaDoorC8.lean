/- own and Made: copies of raw integers. -/
import Derived.Test.YtijcijdgpeolhaaDoorC1
import Derived.Test.YtijcijdgpeolhaaDoorBase5
import Derived.Test.YtijcijdgpeolhaaDoorMath3
namespace Go.Proofs.YtijcijdgpeolhaaDoor
open Go.RowKit

/-- A copy: a sign, and limbs in new memory. -/
def RetOwn (w : World) (s : Bool) (l : List Nat) (e : Ending) (w' : World) : Prop :=
  ∃ A n c, e = .returned (.agg #[.bool s, .slice A n c]) ∧ Hid (n = l.length) ∧ Lim w' A l ∧ n ≤ c ∧ NewB w.heap.size A ∧ Up w w'

set_option maxHeartbeats 2000000 in
theorem own_any (s : Bool) (A : Option Addr) (n c : Nat) (l : List Nat) (w : World) (hl : Lim w A l) (Hn : Hid (n = l.length)) (hn : n ≤ 10000) :
    Calls Tryd.prog 8 #[.agg #[.bool s, .slice A n c]] w (RetOwn w s l) := by
  obtain ⟨w0, hw0⟩ : ∃ w0, w0 = ((w.alloc (.cells #[.bool s, .slice A n c] 25)).alloc (.cells #[.bool false, .slice none 0 0] 25)) := ⟨_, rfl⟩
  have hb1 : Bk w0 (w.heap.size) 25 #[.bool s, .slice A n c] := by
    have := (Bk.new w 25 #[.bool s, .slice A n c]).alloc (.cells #[.bool false, .slice none 0 0] 25)
    rw [hw0]; simpa using this
  have hb2 : Bk w0 (w.heap.size + 1) 25 #[.bool false, .slice none 0 0] := by
    have := Bk.new (w.alloc (.cells #[.bool s, .slice A n c] 25)) 25 #[.bool false, .slice none 0 0]
    rw [hw0]; simpa using this
  have hup0 : Up w w0 := by rw [hw0]; exact ((Up.refl w).alloc _).alloc _
  have hsz0 : w.heap.size + 2 ≤ w0.heap.size := by rw [hw0]; simp
  have Hw0 := hide hw0
  clear hw0
  have e1a := hb1.cell (i := 0) rfl
  have e1b := hb1.cell (i := 1) rfl
  have e2a := hb2.cell (i := 0) rfl
  have e2b := hb2.cell (i := 1) rfl
  have Hsz1 : Hid (w0.heap.size = w.heap.size + 2) := by show _ = _; rw [Hw0.out]; simp
  go_enter Tryd.func8, Tryd.ntmps8
  go_wp2_with fail
  rw [← Hw0.out]
  have hupA : Up w0 w0.drew := (Up.refl w0).drew
  go_region_held3 (fun w' => w'.cell? ⟨w.heap.size, 0, none⟩ = some (.bool s) ∧ w'.cell? ⟨w.heap.size, 1, none⟩ = some (.slice A n c))
    (first | (exact ⟨hupA.keep e1a, hupA.keep e1b⟩) | (exact ⟨((Up.refl w0).alloc _).drew.keep e1a, ((Up.refl w0).alloc _).drew.keep e1b⟩) | (exact ⟨(hupX.keep e1a), (hupX.keep e1b)⟩) | (exact ⟨((hb1.up hupX).far2 (by omega) _ _).cell (i := 0) rfl, ((hb1.up hupX).far2 (by omega) _ _).cell (i := 1) rfl⟩))
    ((refine step_app (by rfl) _ _ (by rfl) (w0.heap.size) (.slice (some ⟨w0.heap.size, 0, none⟩) 0 0) 0 [] (by rfl) ((Own.lit w0 (base := w0.heap.size) (n := 0) ([] : List Nat) #[] (Nat.le_refl _) (by omega) rfl rfl).up ((Up.refl _).drew)) A n c l (by rfl) Hn.out.symm (hl.up (hup0.trans (((Up.refl w0).alloc _).drew))) (by omega) (by simp) ?_; intro v1 w1 hown1 hg1; have hupX : Up w0 w1 := (((Up.refl w0).alloc _).drew).grown hg1 (fun k hk => by cases hk; exact Nat.le_refl _); have hb4 := hb2.up hupX; have f1 := hb4.cell (i := 0) rfl; have f2 := hb4.cell (i := 1) rfl; have f3 := hb4.frozen 0; have f4 := hb4.frozen 1; obtain ⟨A1, c1, rfl, hc1, hl1, hnew1⟩ := hown1.lim))
  have hlen1 := hown1.len
  simp only [List.nil_append, Nat.zero_add] at hl1 hc1 hlen1 ⊢
  have hq := hb4.two (.bool s) (.slice A1 n c1)
  have hnew2 : NewB (w.heap.size + 1 + 1) A1 := hnew1.mono (by have := Hsz1.out; omega)
  go_wp2
  refine bodyPost_ret (v := .agg #[.bool s, .slice A1 n c1]) (by simp [results, Tryd.results8, go_sem, hq.1, hq.2]) rfl ⟨A1, n, c1, rfl, Hn, hl1.two hnew2 _ _, hc1, hnew2.mono (by omega), (hup0.trans hupX).two (by omega) _ _⟩

/-- Some integer that is not too large. -/
def RetSome (w : World) (e : Ending) (w' : World) : Prop := ∃ v z, e = .returned v ∧ IsInt w.heap.size w' v z ∧ z.natAbs < top300 ∧ Up w w'

set_option maxHeartbeats 4000000 in
theorem made_any (s : Bool) (A : Option Addr) (n c : Nat) (l : List Nat) (w : World) (hl : Lim w A l) (hw : W32 l) (Hn : Hid (n = l.length)) (hn : n ≤ 9223372036854775807) :
    Calls Tryd.prog 5 #[.agg #[.bool s, .slice A n c]] w (RetSome w) := by
  obtain ⟨w0, hw0⟩ : ∃ w0, w0 = ((w.alloc (.cells #[.bool s, .slice A n c] 24)).alloc (.cells #[.bool false, .slice none 0 0] 25)) := ⟨_, rfl⟩
  have hb1 : Bk w0 (w.heap.size) 24 #[.bool s, .slice A n c] := by
    have := (Bk.new w 24 #[.bool s, .slice A n c]).alloc (.cells #[.bool false, .slice none 0 0] 25)
    rw [hw0]; simpa using this
  have hb2 : Bk w0 (w.heap.size + 1) 25 #[.bool false, .slice none 0 0] := by
    have := Bk.new (w.alloc (.cells #[.bool s, .slice A n c] 24)) 25 #[.bool false, .slice none 0 0]
    rw [hw0]; simpa using this
  have hup0 : Up w w0 := by rw [hw0]; exact ((Up.refl w).alloc _).alloc _
  have hsz0 : w.heap.size + 2 ≤ w0.heap.size := by rw [hw0]; simp
  have Hw0 := hide hw0
  clear hw0
  have e1a := hb1.cell (i := 0) rfl
  have e1b := hb1.cell (i := 1) rfl
  have e2a := hb2.cell (i := 0) rfl
  have e2b := hb2.cell (i := 1) rfl
  go_enter Tryd.func5, Tryd.ntmps5
  go_wp2_with fail
  rw [← Hw0.out]
  go_loopw [3, 4] (fun v i wr => ∃ (k : Nat) (o : List Nat), i = .int .i64 k ∧ k ≤ n ∧ k ≤ 34 ∧ Own wr w0.heap.size v k o ∧ Dig o ∧ (33 < k → o.getD 33 0 < 1000) ∧ Up w0 wr) (fun _ i _ => 34 - (intOf i).toNat)
  case atStart => exact ⟨0, [], rfl, by omega, by omega, Own.nil _ _, (fun x hx => by cases hx), (by omega), Up.refl _⟩
  case round =>
    obtain ⟨k, o, rfl, hkn, hk34, hown, hdo, htop, hup⟩ := hrel
    have g1 := hup.keep e1a
    have g2 := hup.keep e1b
    have hsz1 := hup.size
    have hTOP := hide htop
    clear htop
    by_cases hgo : k < n ∧ k < 34
    · obtain ⟨h1, h2⟩ := hgo
      obtain ⟨ad, rfl, hb, hcell⟩ := (hl.up (hup0.trans hup)).at_ (k := k) (by rw [← Hn.out]; exact h1)
      have hy := W32.getD hw k
      obtain ⟨y, Hy⟩ : ∃ y, Hid (y = l.getD k 0) := ⟨_, rfl⟩
      rw [← Hy.out] at hcell hy
      have hone : ∀ (x : Nat) (z : Int), z = (x : Int) → Lim (wr.alloc (.cells #[.int .u32 z] 41)) (some ⟨wr.heap.size, 0, none⟩) [x] := fun x z hz => by
        subst hz
        exact Or.inr ⟨_, rfl, by simp, fun j u hj => by match j, hj with | 0, hj => (simp at hj; subst hj; exact cell_new _ _ _)⟩
      have HONE := hide hone
      clear hone
      by_cases h33 : k = 33
      · have hb33 : ((k : Int) == 33) = true := by rw [h33]; rfl
        have H33 := hide h33
        clear h33
        go_wp2_with (at_builtin; refine wp_app rfl _ _ rfl w0.heap.size _ k o rfl (hown.up ((Up.refl wr).alloc _)) (some ⟨wr.heap.size, 0, none⟩) 1 1 [y % 1000000000 % 1000] rfl rfl (HONE.out _ _ (by omega)) (by omega) (by simp; omega) ?_; intro v1 w1 hown1 hg1)
        go_roundw
        case rel => exact ⟨k + 1, o ++ [y % 1000000000 % 1000], by go_num, by omega, by omega, hown1, dig_snoc hdo (by omega), (fun _ => by have h5 := hown.len; have h6 := H33.out; simp [List.getD, h5, h6]; omega), (hup.alloc _).grown hg1 (fun j hj => (hown.lt j hj).1)⟩
        case measure => simp [intOf]; omega
      · have hb33 : ((k : Int) == 33) = false := by rw [beq_eq_false_iff_ne]; omega
        have H33 := hide h33
        clear h33
        go_wp2_with (at_builtin; refine wp_app rfl _ _ rfl w0.heap.size _ k o rfl (hown.up ((Up.refl wr).alloc _)) (some ⟨wr.heap.size, 0, none⟩) 1 1 [y % 1000000000] rfl rfl (HONE.out _ _ (by omega)) (by omega) (by simp; omega) ?_; intro v1 w1 hown1 hg1)
        go_roundw
        case rel => exact ⟨k + 1, o ++ [y % 1000000000], by go_num, by omega, by omega, hown1, dig_snoc hdo (by omega), (fun h => by have := H33.out; omega), (hup.alloc _).grown hg1 (fun j hj => (hown.lt j hj).1)⟩
        case measure => simp [intOf]; omega
    · have hlen := hown.len
      have hval : Hid (val o < top300) := by
        show val o < top300
        rcases Nat.lt_or_ge k 34 with h | h
        · have h1 := val_lt hdo
          have h2 : bas o.length ≤ bas 33 := bas_mono (by omega)
          unfold top300; omega
        · have h1 := val_split o (k := 33) (by omega)
          rw [List.drop_eq_nil_of_le (by omega), val, Nat.mul_zero, Nat.add_zero] at h1
          have h2 := val_lt (dig_take hdo 33)
          rw [List.length_take, Nat.min_eq_left (by omega)] at h2
          have h3 := hTOP.out (by omega)
          have h4 : bas 33 * o.getD 33 0 ≤ bas 33 * 999 := Nat.mul_le_mul_left _ (by omega)
          unfold top300; omega
      have HLEN := hide hlen
      clear hlen
      obtain ⟨A3, c3, rfl, hc3, hl3, _⟩ := hown.lim
      have key : ∀ w1, Up w0 w1 → Lim w1 A3 o → Calls Tryd.prog 16 #[.bool s, .slice A3 k c3] w1 fun e w2 => ∃ (s2 : Bool) (A2 : Option Addr) (n2 c2 : Nat) (z : Int), e = .returned (.tuple #[.agg #[.bool s2, .slice A2 n2 c2], .int .i64 0]) ∧ Hid (s2 = decide (z < 0)) ∧ Hid (n2 = (lim z.natAbs).length) ∧ Lim w2 A2 (lim z.natAbs) ∧ n2 ≤ c2 ∧ NewB (w.heap.size + 1 + 1) A2 ∧ Up w w2 ∧ Bk w2 (w.heap.size + 1) 25 #[.bool false, .slice none 0 0] ∧ z.natAbs < top300 := by
        intro w1 hup1 hl4
        refine (make_any s A3 c3 o w1 hl4 hdo k HLEN.out.symm (by omega)).mono ?_
        rintro e w2 ⟨v2, rfl, hv2, hup2⟩
        have hz : (sgn s (val o)).natAbs < top300 := by rw [sgn_abs]; exact hval.out
        rw [(bnd_ok hz).1] at hv2
        rw [(bnd_ok hz).2]
        obtain ⟨s2, A2, n2, c2, rfl, Hs2, Hn2, hl2, hc2, hnew2⟩ := hv2
        exact ⟨s2, A2, n2, c2, _, rfl, Hs2, Hn2, hl2, hc2, hnew2.mono (by have := hup1.size; omega), (hup0.trans hup1).trans hup2, (hb2.up hup1).up hup2, hz⟩
      have KEY := hide key
      clear key hown
      have fin : Calls Tryd.prog 16 #[.bool s, .slice A3 k c3] wr _ := KEY.out wr hup hl3
      have FIN := hide fin
      clear fin hb1 hb2 e2a e2b
      rcases (show (k < n ∧ 34 ≤ k) ∨ n ≤ k by omega) with ⟨hlt, h34⟩ | hlt
      all_goals
        have hge : ¬ (k < n ∧ k < 34) := hgo
        have HGO := hide hge
        clear hge hgo
        go_wp2_with fail
        refine FIN.out.mono ?_
        rintro e w2 ⟨s2, A2, n2, c2, z, rfl, Hs2, Hn2, hl2, hc2, hnew2, hup2, hbz, hzt⟩
        have f1 := hbz.cell (i := 0) rfl
        have f2 := hbz.cell (i := 1) rfl
        have f3 := hbz.frozen 0
        have f4 := hbz.frozen 1
        have f5 := hbz.lt
        have HQ := hide (fun o => ((hbz.two_bk (.bool s2) (.slice A2 n2 c2)).alloc o).cell (i := 0) rfl)
        have HQ2 := hide (fun o => ((hbz.two_bk (.bool s2) (.slice A2 n2 c2)).alloc o).cell (i := 1) rfl)
        go_wp2
        refine bodyPost_ret (v := .agg #[.bool s2, .slice A2 n2 c2]) (by simp [results, Tryd.results5, go_sem, HQ.out, HQ2.out]) rfl ⟨_, z, rfl, ⟨s2, A2, n2, c2, rfl, Hs2, Hn2, (hl2.two hnew2 _ _).up ((Up.refl _).alloc _), hc2, hnew2.mono (by omega)⟩, hzt, (hup2.two (by omega) _ _).alloc _⟩
end Go.Proofs.YtijcijdgpeolhaaDoor
