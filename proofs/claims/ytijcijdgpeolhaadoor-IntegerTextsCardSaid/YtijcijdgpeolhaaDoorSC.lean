import Derived.Test.YtijcijdgpeolhaaDoorSB
import Derived.Test.YtijcijdgpeolhaaDoorS1b
import Derived.Test.YtijcijdgpeolhaaDoorInv2
/- For every draft of an integer the law of texts returns true. -/
namespace Go.Proofs.YtijcijdgpeolhaaDoor
open Go.RowKit

set_option maxRecDepth 100000 in
set_option maxHeartbeats 8000000 in
theorem textsW (v : Value) (w : World) (hpow : Pow w) (h0 : RawIn w v) : Calls Tryd.prog 3 #[v] w fun e w' => e = .returned (.bool true) ∧ Up w w' := by
  obtain ⟨s, A, n, c, ls, rfl, hl, hw, Hn, hn, hc⟩ := h0
  obtain ⟨w0, hw0⟩ : ∃ w0, w0 = (w.alloc (.cells #[.bool s, .slice A n c] 24)) := ⟨_, rfl⟩
  have hb1 : Bk w0 (w.heap.size) 24 #[.bool s, .slice A n c] := by
    have := Bk.new w 24 #[.bool s, .slice A n c]
    rw [hw0]; simpa using this
  have hup0 : Up w w0 := by rw [hw0]; exact (Up.refl w).alloc _
  have Hw0 := hide hw0
  clear hw0
  have e1a := hb1.cell (i := 0) rfl
  have e1b := hb1.cell (i := 1) rfl
  go_enter Tryd.func3, Tryd.ntmps3
  go_wp2_with fail
  rw [← Hw0.out]
  refine (made_any s A n c ls _ (hl.up hup0) hw Hn hn).mono ?_
  rintro e w1 ⟨v1, z, rfl, hv1, hz, hu1⟩
  have hv10 := hv1
  obtain ⟨s1, A1, n1, c1, rfl, _⟩ := hv1
  have hk1 := Bk.new w1 25 #[.bool s1, .slice A1 n1 c1]
  have huA := (hup0.trans hu1).alloc (.cells #[.bool s1, .slice A1 n1 c1] 25)
  have hvA := hv10.up ((Up.refl w1).alloc (.cells #[.bool s1, .slice A1 n1 c1] 25))
  go_wp2_with fail
  refine (awake_any _).mono ?_
  rintro e w2 ⟨rfl, hu2⟩
  have hk2 := hk1.up hu2
  have d1 := hk2.cell (i := 0) rfl
  have d2 := hk2.cell (i := 1) rfl
  have huB := huA.trans hu2
  have hvB := hvA.up hu2
  go_wp2_with fail
  refine (ownI _ _ z _ hvB hz).mono ?_
  rintro e w3 ⟨v3, rfl, hv3, hu3⟩
  go_wp2_with fail
  refine (format_any _ _ z _ hv3 hz (hpow.up (huB.trans hu3))).mono ?_
  rintro e w4 ⟨rfl, hu4⟩
  obtain ⟨S, hS⟩ : ∃ S, S = bs (itxt z) := ⟨_, rfl⟩
  have hok := okS_itxt hz
  have hSl : S.size ≤ 1000 := by
    rw [hS, bs_size]
    have h1 : (itxt z).length ≤ 1 + 340 := by
      have h3 : ∀ m, m < top300 → (txt m).length ≤ 340 := fun m hm => by
        rw [txt_len]
        by_cases h0 : m = 0
        · subst h0; rw [dgt_zero]; omega
        · have hl : 0 < (lim m).length := Nat.pos_of_ne_zero fun h => h0 (lim_len_zero.1 h)
          have h1 := (digs_lim m).2 hm
          have h2 := (dgt_top (N := m) rfl hl).1
          unfold digs at h1
          rw [if_neg (by omega)] at h1
          omega
      have h4 := h3 _ hz
      unfold itxt
      split
      · simp
      · split
        · rw [List.length_cons]; omega
        · omega
    omega
  rw [← hS] at hok ⊢
  obtain ⟨hok1, hok2⟩ := hok
  have huC := (huB.trans hu3).trans hu4
  have hvC := (hvB.up hu3).up hu4
  have hk4 := (hk2.up hu3).up hu4
  have HS := hide hS
  clear hS
  go_wp2_with fail
  refine (parse_any S _ hSl).mono ?_
  rintro e w5 ⟨v5, E5, rfl, hu5, hr5⟩
  rcases hr5 with ⟨_, rfl, hv5⟩ | ⟨h, _⟩
  · rw [hok2] at hv5
    have hv50 := hv5
    obtain ⟨s5, A5, n5, c5, rfl, _⟩ := hv5
    have hk5 := (hk4.up hu5).alloc (.cells #[.bool s5, .slice A5 n5 c5] 25)
    have hq5 := Bk.new w5 25 #[.bool s5, .slice A5 n5 c5]
    have huD := (huC.trans hu5).alloc (.cells #[.bool s5, .slice A5 n5 c5] 25)
    have hvD := (hvC.up hu5).up ((Up.refl w5).alloc (.cells #[.bool s5, .slice A5 n5 c5] 25))
    have hqD := hv50.up ((Up.refl w5).alloc (.cells #[.bool s5, .slice A5 n5 c5] 25))
    have f1 := hk5.cell (i := 0) rfl
    have f2 := hk5.cell (i := 1) rfl
    go_wp2_with fail
    refine (ownI _ _ z _ hvD hz).mono ?_
    rintro e w6 ⟨v6, rfl, hv6, hu6⟩
    go_wp2_with fail
    refine (small_any _ _ z _ hv6 hz).mono ?_
    rintro e w7 ⟨rfl, hu7⟩
    have hk7 := (hk5.up hu6).up hu7
    have g1 := hk7.cell (i := 0) rfl
    have g2 := hk7.cell (i := 1) rfl
    have hvE := (hvD.up hu6).up hu7
    obtain ⟨X, hX⟩ : ∃ X, X = smV z := ⟨_, rfl⟩
    obtain ⟨Y, hY⟩ : ∃ Y, Y = smE z := ⟨_, rfl⟩
    rw [← hX, ← hY]
    go_wp2_with fail
    have hRS := rsmall_any _ _ z _ hvE hz
    unfold RetSmall at hRS
    rw [← hX, ← hY] at hRS
    refine hRS.mono ?_
    rintro e w8 ⟨rfl, hu8⟩
    have hk8 := hk7.up hu8
    have i1 := hk8.cell (i := 0) rfl
    have i2 := hk8.cell (i := 1) rfl
    have hvF := hvE.up hu8
    have hRF := rformat_any _ _ z _ hvF hz
    rw [← HS.out] at hRF
    go_wp2_with fail
    refine hRF.mono ?_
    rintro e w9 ⟨rfl, hu9⟩
    have hk9 := hk8.up hu9
    have j1 := hk9.cell (i := 0) rfl
    have j2 := hk9.cell (i := 1) rfl
    have hq9 := (((hq5.up hu6).up hu7).up hu8).up hu9
    have j3 := hq9.cell (i := 0) rfl
    have j4 := hq9.cell (i := 1) rfl
    have hqF := (((hqD.up hu6).up hu7).up hu8).up hu9
    go_wp2_with fail
    refine (equalI _ _ _ _ z _ hqF (hvF.up hu9) hz).mono ?_
    rintro e w10 ⟨rfl, hu10⟩
    go_wp2
    go_ret
    exact ⟨rfl, ((((huD.trans hu6).trans hu7).trans hu8).trans hu9).trans hu10⟩
  · rw [hok1] at h; cases h
end Go.Proofs.YtijcijdgpeolhaaDoor
/- For every draft of an integer the text of the integer leads to it again, and Small returns its value, or ErrRange. The card: the tables that the row lists are tied to the text of the program. -/
namespace Go.Proofs.YtijcijdgpeolhaaDoor
open Go.RowKit

open Go.ChangeShapes Go.WideShapes Go.ChangeAt Go.Joins Go.Deep
set_option maxRecDepth 100000 in
theorem contract_integerTexts (H : Type) (enc : TypeId × Value → H) (W : World) (base : Nat) (args : Array Value) (ds gs : List (DataW H)) (before : List MemPlace)
    (hval0 : ∀ (j : Nat) t v, Tryd.f3.params[j]? = some t → args[j]? = some v → Value.okWide Tryd.prog W .any base t v)
    (hW : DataW.Whole enc Tryd.prog Tryd.f3.params.toList Rows.integerTextsSpec.vars false W args.toList ds gs before) (hT : Pow W) :
    Calls Tryd.prog 3 args W fun e W' => ∃ v, e = .returned v ∧ Rows.integerTextsSpec.post enc Tryd.prog Tryd.f3 false true false false W args v W' := by
  have hval := hval0
  have hW' := hW
  obtain ⟨p, q, hA0, hV, rfl, hfz, hnd⟩ := hW
  have hA : DataW.TrodAll enc Tryd.prog W 0 (fun _ => true) true Tryd.f3.params.toList args.toList ds p := hA0
  rw [Tryd.params3] at hA hval
  obtain ⟨v0, vs0, d0, ds0, p0, q0, hargs, rfl, rfl, h0, r0⟩ := trodAll_cons hA
  obtain ⟨rfl, rfl, rfl⟩ := trodAll_nil r0
  obtain rfl : args = #[v0] := by cases args; simp_all
  obtain ⟨rfl, rfl⟩ := trodVars_none hV
  have k0 := h0
  have lt0 : ∀ x ∈ p0, x.block < W.heap.size := by obtain ⟨m, hm⟩ := k0; exact DataW.trod_lt m _ _ _ hm
  have w0 : RawIn W v0 := raw_open Tryd.underlying24 (by kernel_rfl) (by kernel_rfl) (by kernel_rfl) (by kernel_rfl) (hval 0 24 v0 rfl rfl) h0
  clear hA0 hval0
  refine (textsW v0 W hT w0).mono fun e W' ⟨he, bel0⟩ => ?_
  have bel : Below W.heap.size W W' := bel0
  subst he
  exact ⟨_, rfl, _, _, _, [], _, [], hW', trodAll_mk1 (shut_bool Tryd.underlying4 _), (trodAll_cons_mk (Below.trod laidOut (by kernel_rfl) (of_decide_eq_true (by kernel_rfl)) k0 bel lt0) trodAll_mk0), rfl, bel.frame _, fun h => by cases h⟩
theorem laid_met_integerTexts (os : Os) : laidMet Tryd.prog Rows.integerTextsRow.laid ((laidWorld os).forCall (fun _ _ => 0) ⟨#[], #[.agg #[.bool false, .slice none 0 0]], []⟩).memory :=
  laidMet_of_run' 8 (by kernel_rfl) (by kernel_rfl)
theorem reads_integerTexts (os : Os) {H : Type} (enc : TypeId × Value → H) : ∃ places, DataW.whole enc Tryd.prog ((laidWorld os).forCall (fun _ _ => 0) ⟨#[], #[.agg #[.bool false, .slice none 0 0]], []⟩).memory Tryd.f3.params.toList Rows.integerTextsSpec.vars false (#[.agg #[.bool false, .slice none 0 0]] : Array Value).toList 8 = some ([.agg [.lit (.bool false), .nil]], [], places) :=
  ⟨[], by kernel_rfl⟩
set_option maxRecDepth 100000 in
theorem lifted_integerTexts (os : Os) (started : os.Started) (H : Type) (enc : TypeId × Value → H) (F : Stop.Interp) :
    ReturnsInHanded {} Tryd.checked os 3 .any ((OpenSpec.ofChange Rows.integerTextsSpec).preRow enc Tryd.prog Tryd.f3 Rows.integerTextsRow.domain false Rows.integerTextsRow.laid) (((OpenSpec.ofChange Rows.integerTextsSpec).at F).post enc Tryd.prog Tryd.f3 false true false false) := by
  obtain ⟨places, hx⟩ := reads_integerTexts os enc
  refine returnsInHanded_of_row (C := Tryd.checked) (s := OpenSpec.ofChange Rows.integerTextsSpec) ownK started (by kernel_rfl) Tryd.func3
    (witness_row_at (enc := enc) (C := Tryd.checked) false (laidWorld os) #[.agg #[.bool false, .slice none 0 0]] rfl (by kernel_rfl) (by kernel_rfl) (by kernel_rfl)
      (OpenSpec.preRow_of_cond 8 hx (by kernel_rfl) (fun k hk => by cases hk) (by kernel_rfl) (laid_met_integerTexts os))) ?_
  intro W base args ds gs before hval hW _ _ _ hL _ _
  exact contract_integerTexts H enc W base args ds gs before hval hW (pow_of hL)
theorem said_integerTexts : Rows.IntegerTextsSaid :=
  OpenClaim.holds_of_cond 3 Tryd.f3 rfl rfl rfl rfl rfl rfl rfl ⟨rfl, rfl, rfl, rfl, rfl⟩ rfl rfl rfl rfl rfl (by kernel_rfl) Tryd.func3 (by kernel_rfl)
    (of_decide_eq_true (by kernel_rfl)) (by unfold Func.isWrapper; first | (rw [if_pos (by decide +kernel)]; kernel_rfl) | (rw [if_neg (by decide +kernel)]; exact ⟨rfl, rfl⟩))
    (fun os started H enc _ F => by rw [OpenClaim.pre_eq_preRow]; exact lifted_integerTexts os started H enc F)
theorem plain_integerTexts (f : FuncId) (fn : Func) (hf : Tryd.pinned.checked.prog.funcNamed "sederunt/sederuntlaw01.IntegerTexts" = some f) (hfn : Tryd.pinned.checked.prog.funcs[f]? = some fn) :
    false = Tryd.pinned.checked.prog.looks [] ∧ ∀ (j : Nat) t, fn.params[j]? = some t → Tryd.pinned.checked.prog.wantsStandIn t = false := by
  obtain rfl : f = 3 := Option.some.inj ((show Tryd.prog.funcNamed "sederunt/sederuntlaw01.IntegerTexts" = some 3 by kernel_rfl).symm.trans hf) |>.symm
  obtain rfl : fn = Tryd.f3 := (Option.some.inj (Tryd.func3.symm.trans hfn)).symm
  refine ⟨by kernel_rfl, fun j t ht => ?_⟩
  rw [Tryd.params3] at ht
  have h := Array.mem_of_getElem? ht
  obtain rfl : t = 24 := by simpa using h
  exact (show Tryd.prog.wantsStandIn 24 = false by kernel_rfl)
theorem integerTextsCard_holds : Rows.IntegerTextsCardSaid :=
  Claim7.holds_tied_plain_at .later [] _ _ _ _ said_integerTexts (fun _ h => by cases h) (by kernel_rfl) (fun _ h => by cases h) integerTexts_row_tie rfl ⟨rfl, rfl⟩ (by kernel_rfl) rfl plain_integerTexts (by kernel_rfl)
end Go.Proofs.YtijcijdgpeolhaaDoor
