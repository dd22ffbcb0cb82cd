/- For every raw integer, Valid reports whether it is valid (asked up to 60 limbs, as the law does), Sign returns its sign, or 0, and Cmp returns 0 for one that is not valid. No condition. -/
import Derived.Test.YtbfbemgfdcehfaaInv2
import Derived.Test.YtbfbemgfdcehfaaH1
import Derived.Test.YtbfbemgfdcehfaaV2
import Derived.Test.YtbfbemgfdcehfaaV3
namespace Go.Proofs.Ytbfbemgfdcehfaa
open Go.RowKit

open Go.ChangeShapes Go.WideShapes Go.ChangeAt

/-- A raw integer that is not valid. -/
def BadR (w : World) (v : Value) : Prop := ∃ s l, Raw w v s l ∧ W32 l ∧ l.length ≤ 60 ∧ rawValid s l = false
/-- Two raw integers, one of which is not valid. -/
def Mix (w : World) (v v' : Value) : Prop := (BadR w v ∧ IsInt 0 w v' 3) ∨ (IsInt 0 w v 3 ∧ BadR w v')
theorem BadR.up {w w' : World} {v : Value} (h : BadR w v) (hu : Up w w') : BadR w' v := by
  obtain ⟨s, l, h1, h2, h3, h4⟩ := h
  exact ⟨s, l, h1.up hu, h2, h3, h4⟩
theorem cmpMix (v v' : Value) (w : World) (h : Mix w v v') : Calls Try.prog 20 #[v, v'] w fun e w' => e = .returned (.int .i64 0) ∧ Up w w' := by
  have h3 : (lim (3 : Int).natAbs).length ≤ 60 := by rw [lim_len_le]; have := bas_mono (m := 1) (n := 60) (by omega); have h1 : bas 1 = 1000000000 := rfl; show 3 < bas 60; omega
  rcases h with ⟨⟨s, l, ⟨A, n, c, rfl, h1, h2, _⟩, h4, h5, h6⟩, ⟨t, C, m, d, rfl, Ht, Hm, hm, _⟩⟩ | ⟨⟨t, C, m, d, rfl, Ht, Hm, hm, _⟩, ⟨s, l, ⟨A, n, c, rfl, h1, h2, _⟩, h4, h5, h6⟩⟩
  · exact cmp_bad s t A C c d n m l _ w h1 hm h4 (dig_lim _).w32 h2 Hm (by rw [h2.out]; omega) (by rw [Hm.out]; omega) (.inl h6)
  · exact cmp_bad t s C A d c m n _ l w hm h1 (dig_lim _).w32 h4 Hm h2 (by rw [Hm.out]; omega) (by rw [h2.out]; omega) (.inr h6)
theorem ownBad (v : Value) (w : World) (h : BadR w v) : Calls Try.prog 17 #[v] w fun e w' => ∃ v', e = .returned v' ∧ BadR w' v' ∧ Up w w' := by
  obtain ⟨s, l, ⟨A, n, c, rfl, h1, h2, _⟩, h4, h5, h6⟩ := h
  refine (own_any s A n c l w h1 h2 (by rw [h2.out]; omega)).mono ?_
  rintro e w1 ⟨A1, n1, c1, rfl, Hn1, hl1, hc1, _, hup1⟩
  exact ⟨_, rfl, ⟨s, l, ⟨A1, n1, c1, rfl, hl1, Hn1, hc1⟩, h4, h5, h6⟩, hup1⟩
theorem validBad (v : Value) (w : World) (h : BadR w v) : Calls Try.prog 15 #[v] w fun e w' => e = .returned (.bool false) ∧ Up w w' := by
  obtain ⟨s, l, ⟨A, n, c, rfl, h1, h2, _⟩, h4, h5, h6⟩ := h
  rw [← h6]
  exact valid_any s A c n l w h1 h4 h2 (by rw [h2.out]; omega)
theorem rvalidBad (v : Value) (w : World) (h : BadR w v) : Calls Try.prog 19 #[v] w fun e w' => e = .returned (.bool false) ∧ Up w w' := by
  obtain ⟨s, l, ⟨A, n, c, rfl, h1, h2, _⟩, h4, h5, h6⟩ := h
  rw [← h6]
  exact rvalid_raw s A c n l w h1 h4 h2 (by rw [h2.out]; omega)
theorem signBad (v : Value) (w : World) (h : BadR w v) : Calls Try.prog 18 #[v] w fun e w' => e = .returned (.int .i64 0) ∧ Up w w' := by
  obtain ⟨s, l, ⟨A, n, c, rfl, h1, h2, _⟩, h4, h5, h6⟩ := h
  exact sign_bad s A c n l w h1 h4 h2 (by rw [h2.out]; omega) h6
theorem rvalidI (B : Nat) (v : Value) (x : Int) (w : World) (hv : IsInt B w v x) (hx : x.natAbs < top300) : Calls Try.prog 19 #[v] w fun e w' => e = .returned (.bool true) ∧ Up w w' := by
  obtain ⟨s, A, n, c, rfl, Hs, Hn, hl, hc, _⟩ := hv
  refine (rvalid_raw s A c n _ w hl (dig_lim _).w32 Hn (by rw [Hn.out]; have := len_of_top hx; omega)).mono ?_
  rintro e w' ⟨rfl, hup⟩
  exact ⟨by rw [rawValid_int Hs.out hx], hup⟩
theorem rsignI (B : Nat) (v : Value) (x : Int) (w : World) (hv : IsInt B w v x) (hx : x.natAbs < top300) : Calls Try.prog 21 #[v] w fun e w' => e = .returned (.int .i64 x.sign) ∧ Up w w' := by
  obtain ⟨s, A, n, c, rfl, Hs, Hn, hl, hc, _⟩ := hv
  rw [← sgV_int Hs Hn]
  exact rsignV_any s A c n w (by rw [Hn.out]; have := len_of_top hx; omega)

set_option maxHeartbeats 8000000 in
theorem validW (v0 : Value) (w : World) (h0 : RawIn w v0) : Calls Try.prog 4 #[v0] w fun e w' => e = .returned (.bool true) ∧ Up w w' := by
  obtain ⟨s, A, n, c, l, rfl, hl, hw, Hn, hn, hc⟩ := h0
  obtain ⟨w0, hw0⟩ : ∃ w0, w0 = (w.alloc (.cells #[.bool s, .slice A n c] 24)) := ⟨_, rfl⟩
  have hb1 : Bk w0 (w.heap.size) 24 #[.bool s, .slice A n c] := by
    have := Bk.new w 24 #[.bool s, .slice A n c]
    rw [hw0]; simpa using this
  have hup0 : Up w w0 := by rw [hw0]; exact (Up.refl w).alloc _
  have hsz0 : w.heap.size + 1 ≤ w0.heap.size := by rw [hw0]; simp
  have Hw0 := hide hw0
  clear hw0
  have e1a := hb1.cell (i := 0) rfl
  have e1b := hb1.cell (i := 1) rfl
  by_cases h60 : n ≤ 60
  · have hz60 : decide ((n : Int) ≤ 60) = true := by simp; omega
    have hraw : Raw w (.agg #[.bool s, .slice A n c]) s l := ⟨A, n, c, rfl, hl, Hn, hc⟩
    rcases Bool.eq_false_or_eq_true (rawValid s l) with hr | hr
    · obtain ⟨z, hz, hi⟩ := hraw.int hr
      have hi := hi.up hup0
      have k1 : w0.cell? ⟨w.heap.size, 0, none⟩ = some (.bool s) := e1a
      have k2 : w0.cell? ⟨w.heap.size, 1, none⟩ = some (.slice A n c) := e1b
      clear hraw hr hl hw Hn hn hc hb1 e1a e1b hsz0
      go_enter Try.func4, Try.ntmps4
      go_wp2_with fail
      rw [← Hw0.out]
      refine (awake_any _).mono ?_
      rintro e wa ⟨rfl, hupa⟩
      have k3 := hupa.keep k1
      have k4 := hupa.keep k2
      go_wp2_with fail
      refine (few_any s A c n 60 _).mono ?_
      rintro e wb ⟨rfl, hupb⟩
      have hupB := hupa.trans hupb
      have k1 : wb.cell? ⟨w.heap.size, 0, none⟩ = some (.bool s) := hupB.keep k1
      have k2 : wb.cell? ⟨w.heap.size, 1, none⟩ = some (.slice A n c) := hupB.keep k2
      clear k3 k4 hupa hupb
      go_wp2_with fail
      have hupA : Up wb wb.drew := (Up.refl wb).drew
      go_region_held3 (fun w' => w'.cell? ⟨w.heap.size, 0, none⟩ = some (.bool s) ∧ w'.cell? ⟨w.heap.size, 1, none⟩ = some (.slice A n c))
        (exact ⟨hupA.keep k1, hupA.keep k2⟩)
        (first
          | (go_at_call 17; refine (ownI 0 _ z _ ((hi.up hupB).up hupA) hz).mono ?_; rintro e wx ⟨vx, rfl, hvx, hupx⟩; replace hupA := hupA.trans hupx)
          | (go_at_call 15; refine (validI_any _ _ z _ hvx hz).mono ?_; rintro e wx ⟨rfl, hupx⟩; replace hupA := hupA.trans hupx)
          | (go_at_call 18; refine (signI_any _ _ z _ hvx hz).mono ?_; rintro e wx ⟨rfl, hupx⟩; replace hupA := hupA.trans hupx))
      have k3 : _ = some (Value.bool s) := hupA.keep k1
      have k4 : _ = some (Value.slice A n c) := hupA.keep k2
      have hupC := hupB.trans hupA
      go_wp2_with fail
      refine (rvalidI 0 _ z _ (hi.up hupC) hz).mono ?_
      rintro e wd ⟨rfl, hupd⟩
      have k5 := hupd.keep k3
      have k6 := hupd.keep k4
      go_wp2_with fail
      refine (rsignI 0 _ z _ ((hi.up hupC).up hupd) hz).mono ?_
      rintro e we ⟨rfl, hupe⟩
      go_wp2
      go_ret
      exact ⟨rfl, ((hup0.trans hupC).trans hupd).trans hupe⟩
    · have hbd : BadR w0 (.agg #[.bool s, .slice A n c]) := ⟨s, l, hraw.up hup0, hw, by rw [← Hn.out]; exact h60, hr⟩
      have k1 : w0.cell? ⟨w.heap.size, 0, none⟩ = some (.bool s) := e1a
      have k2 : w0.cell? ⟨w.heap.size, 1, none⟩ = some (.slice A n c) := e1b
      clear hraw hr hl hw Hn hn hc hb1 e1a e1b hsz0
      go_enter Try.func4, Try.ntmps4
      go_wp2_with fail
      rw [← Hw0.out]
      refine (awake_any _).mono ?_
      rintro e wa ⟨rfl, hupa⟩
      have k3 := hupa.keep k1
      have k4 := hupa.keep k2
      go_wp2_with fail
      refine (few_any s A c n 60 _).mono ?_
      rintro e wb ⟨rfl, hupb⟩
      have hupB := hupa.trans hupb
      have k1 : wb.cell? ⟨w.heap.size, 0, none⟩ = some (.bool s) := hupB.keep k1
      have k2 : wb.cell? ⟨w.heap.size, 1, none⟩ = some (.slice A n c) := hupB.keep k2
      clear k3 k4 hupa hupb
      go_wp2_with fail
      have hupA : Up wb wb.drew := (Up.refl wb).drew
      go_region_held3 (fun w' => w'.cell? ⟨w.heap.size, 0, none⟩ = some (.bool s) ∧ w'.cell? ⟨w.heap.size, 1, none⟩ = some (.slice A n c))
        (exact ⟨hupA.keep k1, hupA.keep k2⟩)
        (first
          | (go_at_call 17; refine (ownBad _ _ ((hbd.up hupB).up hupA)).mono ?_; rintro e wx ⟨vx, rfl, hvx, hupx⟩; replace hupA := hupA.trans hupx)
          | (go_at_call 15; refine (validBad _ _ hvx).mono ?_; rintro e wx ⟨rfl, hupx⟩; replace hupA := hupA.trans hupx)
          | (go_at_call 18; refine (signBad _ _ hvx).mono ?_; rintro e wx ⟨rfl, hupx⟩; replace hupA := hupA.trans hupx))
      have k3 : _ = some (Value.bool s) := hupA.keep k1
      have k4 : _ = some (Value.slice A n c) := hupA.keep k2
      have hupC := hupB.trans hupA
      go_wp2_with fail
      refine (rvalidBad _ _ (hbd.up hupC)).mono ?_
      rintro e wd ⟨rfl, hupd⟩
      have hbd := (hbd.up hupC).up hupd
      have hupw := (hup0.trans hupC).trans hupd
      have k1 : wd.cell? ⟨w.heap.size, 0, none⟩ = some (.bool s) := hupd.keep k3
      have k2 : wd.cell? ⟨w.heap.size, 1, none⟩ = some (.slice A n c) := hupd.keep k4
      clear k3 k4 hupC hupB hupA
      go_wp2_with fail
      have hupA : Up wd wd.drew := (Up.refl wd).drew
      go_region_held3 (fun w' => w'.cell? ⟨w.heap.size, 0, none⟩ = some (.bool s) ∧ w'.cell? ⟨w.heap.size, 1, none⟩ = some (.slice A n c))
        (exact ⟨hupA.keep k1, hupA.keep k2⟩)
        (first
          | (go_at_call 17; refine (ownBad _ _ (hbd.up hupA)).mono ?_; rintro e wx ⟨vx, rfl, hvx, hupx⟩; replace hupA := hupA.trans hupx)
          | (go_at_call 10; refine (ofI 3 _ (by decide) (by decide)).mono ?_; rintro e wy ⟨vy, rfl, hvy, hupy⟩; replace hupA := hupA.trans hupy)
          | (go_at_call 20; refine (cmpMix _ _ _ (by first | exact .inl ⟨hvx.up hupy, hvy.mono (Nat.zero_le _)⟩ | exact .inr ⟨(hvy.mono (Nat.zero_le _)).up hupx, hvx⟩)).mono ?_; rintro e wz ⟨rfl, hupz⟩; replace hupA := hupA.trans hupz))
      go_wp2
      go_ret
      exact ⟨rfl, hupw.trans hupA⟩
  · have hz60 : decide ((n : Int) ≤ 60) = false := by simp; omega
    have k1 : w0.cell? ⟨w.heap.size, 0, none⟩ = some (.bool s) := e1a
    have k2 : w0.cell? ⟨w.heap.size, 1, none⟩ = some (.slice A n c) := e1b
    clear hl hw Hn hn hc hb1 e1a e1b hsz0
    go_enter Try.func4, Try.ntmps4
    go_wp2_with fail
    rw [← Hw0.out]
    refine (awake_any _).mono ?_
    rintro e wa ⟨rfl, hupa⟩
    have k3 := hupa.keep k1
    have k4 := hupa.keep k2
    go_wp2_with fail
    refine (few_any s A c n 60 _).mono ?_
    rintro e wb ⟨rfl, hupb⟩
    have hupB := hupa.trans hupb
    have k1 : wb.cell? ⟨w.heap.size, 0, none⟩ = some (.bool s) := hupB.keep k1
    have k2 : wb.cell? ⟨w.heap.size, 1, none⟩ = some (.slice A n c) := hupB.keep k2
    clear k3 k4 hupa hupb
    go_wp2_with fail
    refine (awake_any _).mono ?_
    rintro e wc ⟨rfl, hupc⟩
    go_wp2
    go_ret
    exact ⟨rfl, (hup0.trans hupB).trans hupc⟩

set_option maxRecDepth 100000 in
theorem lifted_integerValid (os : Os) (started : os.Started) (H : Type) (enc : TypeId × Value → H) :
    ReturnsInHanded {} Try.checked os 4 .any (Rows.integerValidSpec.pre6 enc Try.prog Try.f4 Rows.integerValidRow.domain false) (Rows.integerValidSpec.post enc Try.prog Try.f4 false true false false) := by
  refine returnsInHanded_of_change (C := Try.checked) ownK started (by kernel_rfl) Try.func4
    (ChangeSpec.witness6 (enc := enc) (C := Try.checked) false ⟨#[], #[.agg #[.bool false, .slice none 0 0]], []⟩ 8 (by kernel_rfl) (by kernel_rfl) (by kernel_rfl) (by kernel_rfl)) ?_
  intro W base args ds gs before hval0 hW hcnd _
  have hval : ∀ (j : Nat) t v, Try.f4.params[j]? = some t → args[j]? = some v → Value.okWide Try.prog W .any base t v := hval0
  have hW' := hW
  obtain ⟨p, q, hA0, hV, rfl, hfz, hnd⟩ := hW
  have hA : DataW.TrodAll enc Try.prog W 0 (fun _ => true) true Try.f4.params.toList args.toList ds p := hA0
  rw [Try.params4] at hA hval
  obtain ⟨v0, vs0, d0, ds0, p0, q0, hargs, rfl, rfl, h0, r0⟩ := trodAll_cons hA
  obtain ⟨rfl, rfl, rfl⟩ := trodAll_nil r0
  obtain rfl : args = #[v0] := by cases args; simp_all
  obtain ⟨rfl, rfl⟩ := trodVars_none hV
  have k0 := h0
  have lt0 : ∀ x ∈ p0, x.block < W.heap.size := by obtain ⟨m, hm⟩ := k0; exact DataW.trod_lt m _ _ _ hm
  have w0 : RawIn W v0 := raw_open Try.underlying24 (by kernel_rfl) (by kernel_rfl) (by kernel_rfl) (by kernel_rfl) (hval 0 24 v0 rfl rfl) h0
  clear hA0 hval0
  refine (validW v0 W w0).mono fun e W' ⟨he, bel0⟩ => ?_
  have bel : Below W.heap.size W W' := bel0
  subst he
  exact ⟨_, rfl, _, _, _, [], _, [], hW', trodAll_mk1 (shut_bool Try.underlying4 _), (trodAll_cons_mk (Below.trod laidOut (by kernel_rfl) (of_decide_eq_true (by kernel_rfl)) k0 bel lt0) trodAll_mk0), rfl, bel.frame _, fun h => by cases h⟩

theorem over_integerValid : Rows.integerValidRow.holds Try.pinned (OpenSpec.ofChange Rows.integerValidSpec) :=
  OpenClaim.holds_of_wide 4 Try.f4 rfl rfl rfl rfl rfl rfl rfl ⟨rfl, rfl, rfl, rfl, rfl⟩ rfl rfl rfl rfl rfl (by kernel_rfl) Try.func4 (by kernel_rfl)
    (of_decide_eq_true (by kernel_rfl)) (by unfold Func.isWrapper; first | (rw [if_pos (by decide +kernel)]; kernel_rfl) | (rw [if_neg (by decide +kernel)]; exact ⟨rfl, rfl⟩))
    (fun os started H enc _ => lifted_integerValid os started H enc)

theorem integerValid_holds : Rows.IntegerValidSaid := over_integerValid
end Go.Proofs.Ytbfbemgfdcehfaa
