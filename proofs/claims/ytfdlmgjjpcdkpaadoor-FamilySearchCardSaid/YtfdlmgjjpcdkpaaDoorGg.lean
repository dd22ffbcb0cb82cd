/- The law on the algebra of families: And commutes, spreads over Or, and groups as it likes. -/
import Derived.Test.YtfdlmgjjpcdkpaaDoorGf
namespace Go.Proofs.YtfdlmgjjpcdkpaaDoor
open Go.RowKit

/-- A list of sets lies at so many cells. -/
structure LV (w : World) (A : Option Addr) (n c : Nat) (l : List Nat) : Prop where
  vals : Vals w A (us l)
  len : n = l.length
  cap : n ≤ c
theorem LV.up {w w' : World} {A : Option Addr} {n c : Nat} {l : List Nat} (h : LV w A n c l) (hu : Up w w') : LV w' A n c l := ⟨h.vals.up hu, h.len, h.cap⟩
theorem fam6_len {f : List Nat} (h : Fam6 f) : f.length ≤ 64 := small_len (inc_nodup h.inc) h.rng
/-- A result that is a list and no error. -/
def RetA (w : World) (l : List Nat) (e : Ending) (w' : World) : Prop := ∃ A n c, e = .returned (.tuple #[.slice A n c, .int .i64 0]) ∧ Hid (LV w' A n c l) ∧ Up w w'
theorem retA_of {w : World} {l : List Nat} {e : Ending} {w' : World} (h : RetP w (l, 0) e w') : RetA w l e w' := by
  obtain ⟨v, he, hown, hu⟩ := h
  obtain ⟨A, c, rfl, _, hV, hl, hc⟩ := own_vals hown
  exact ⟨A, _, c, he, ⟨hV, rfl, by omega⟩, hu⟩
theorem and_six (A B : Option Addr) (n c m d : Nat) (f g : List Nat) (w : World) (hf : Hid (LV w A n c f)) (hg : Hid (LV w B m d g)) (Hf : Hid (Fam6 f)) (Hg : Hid (Fam6 g)) :
    Calls Tryd.prog 27 #[.slice A n c, .slice B m d] w (RetA w (minS (prd f g))) := by
  have h1 := fam6_len Hf.out
  have h2 := fam6_len Hg.out
  have h3 := hf.out.len
  have h4 := hg.out.len
  have h := and_fam A B n c m d f g w hf.out.vals hg.out.vals h3 h4 Hf.out.fam.s16 Hg.out.fam.s16 (by omega) (by omega) hf.out.cap hg.out.cap
  rw [andE_six Hf.out Hg.out] at h
  exact h.mono fun e w' hr => retA_of hr
theorem or_six (A B : Option Addr) (n c m d : Nat) (f g : List Nat) (w : World) (hf : Hid (LV w A n c f)) (hg : Hid (LV w B m d g)) (Hf : Hid (Fam6 f)) (Hg : Hid (Fam6 g)) :
    Calls Tryd.prog 25 #[.slice A n c, .slice B m d] w (RetA w (minS (f ++ g))) := by
  have h1 := fam6_len Hf.out
  have h2 := fam6_len Hg.out
  have h3 := hf.out.len
  have h4 := hg.out.len
  have h := or_fam A B n c m d f g w hf.out.vals hg.out.vals h3 h4 Hf.out.fam.s16 Hg.out.fam.s16 (by omega) (by omega) hf.out.cap hg.out.cap
  rw [orE_six Hf.out Hg.out] at h
  exact h.mono fun e w' hr => retA_of hr
theorem eq_six (A B : Option Addr) (n c m d : Nat) (f g : List Nat) (w : World) (hf : Hid (LV w A n c f)) (hg : Hid (LV w B m d g)) (Hf : Hid (Fam6 f)) (h : Hid (f = g)) :
    Calls Tryd.prog 18 #[.slice A n c, .slice B m d] w fun e w' => e = .returned (.bool true) ∧ Up w w' := by
  have h1 := fam6_len Hf.out
  have h2 := h.out
  subst h2
  have h3 := hf.out.len
  have h4 := hg.out.len
  have k := equal_any A B n c m d f f w hf.out.vals hg.out.vals h3 h4 (by omega) (by omega)
  rw [decide_eq_true rfl] at k
  exact k
theorem fam6_and {f g : List Nat} (hf : Fam6 f) (hg : Fam6 g) : Fam6 (minS (prd f g)) := fam6_min (prd64 hf.rng hg.rng)
theorem fam6_or {f g : List Nat} (hf : Fam6 f) (hg : Fam6 g) : Fam6 (minS (f ++ g)) := fam6_min (app64 hf.rng hg.rng)
theorem fam6_drf (b : Nat) (l : List Nat) : Fam6 (drf b l) := by
  unfold drf
  split
  · exact fam6_min (l := []) (fun x h => by cases h)
  · refine fam6_min fun x hx => ?_
    have h1 := cutS_lt l x hx
    have : 2 ^ (1 + b % 6) ≤ 2 ^ 6 := Nat.pow_le_pow_right (by omega) (by omega)
    omega
theorem retO_open {w : World} {l : List Nat} {n : Nat} {b : Bool} {e : Ending} {w' : World} (h : RetO w l n b e w') : ∃ A m c, e = .returned (.tuple #[.slice A m c, .int .i64 (n : Int), .bool b]) ∧ Hid (LV w' A m c l) ∧ Up w w' := by
  obtain ⟨v, he, hown, hu⟩ := h
  obtain ⟨A, c, rfl, _, hV, hl, hc⟩ := own_vals hown
  exact ⟨A, _, c, he, ⟨hV, rfl, by omega⟩, hu⟩
theorem cellj_new (w : World) (cs : Array Value) (t : TypeId) (j : Nat) (x : Value) (h : cs[j]? = some x) : (w.alloc (.cells cs t)).cell? ⟨w.heap.size, j, none⟩ = some x := by
  unfold World.cell?
  rw [heap_alloc_new]
  exact h
theorem size_new (w : World) (o : Obj) : (w.alloc o).heap.size = w.heap.size + 1 := by simp
theorem three_new (w : World) (a0 a1 a2 b0 b1 b2 : Value) (t0 t1 t2 : TypeId) : ∃ W3, W3 = ((w.alloc (.cells #[a0, b0] t0)).alloc (.cells #[a1, b1] t1)).alloc (.cells #[a2, b2] t2) ∧ Up w W3 ∧ W3.cell? ⟨w.heap.size + 1, 0, none⟩ = some a1 ∧ W3.cell? ⟨w.heap.size + 1, 1, none⟩ = some b1 ∧ W3.cell? ⟨w.heap.size + 1 + 1, 0, none⟩ = some a2 ∧ W3.cell? ⟨w.heap.size + 1 + 1, 1, none⟩ = some b2 ∧ W3.heap.size = w.heap.size + 3 := by
  obtain ⟨W1, hW1⟩ : ∃ W1, W1 = w.alloc (.cells #[a0, b0] t0) := ⟨_, rfl⟩
  have h1 : W1.heap.size = w.heap.size + 1 := by rw [hW1]; exact size_new _ _
  have u1 : Up w W1 := by rw [hW1]; exact (Up.refl w).alloc _
  rw [← hW1]
  clear hW1
  obtain ⟨W2, hW2⟩ : ∃ W2, W2 = W1.alloc (.cells #[a1, b1] t1) := ⟨_, rfl⟩
  have h2 : W2.heap.size = w.heap.size + 1 + 1 := by rw [hW2, size_new, h1]
  have u2 : Up w W2 := by rw [hW2]; exact u1.alloc _
  have c0 : W2.cell? ⟨w.heap.size + 1, 0, none⟩ = some a1 := by rw [hW2, ← h1]; exact cellj_new W1 _ _ _ _ rfl
  have c1 : W2.cell? ⟨w.heap.size + 1, 1, none⟩ = some b1 := by rw [hW2, ← h1]; exact cellj_new W1 _ _ _ _ rfl
  rw [← hW2]
  clear hW2
  refine ⟨_, rfl, u2.alloc _, ?_, ?_, ?_, ?_, ?_⟩
  · rw [((Up.refl W2).alloc _).cell (by show w.heap.size + 1 < _; omega)]; exact c0
  · rw [((Up.refl W2).alloc _).cell (by show w.heap.size + 1 < _; omega)]; exact c1
  · rw [← h2]; exact cellj_new W2 _ _ _ _ rfl
  · rw [← h2]; exact cellj_new W2 _ _ _ _ rfl
  · rw [size_new, h2]
/-- A draft that came in. -/
def DraftIn (w : World) (v : Value) : Prop := ∃ (b : Nat) (v2 : Value), v = .agg #[.int .u8 (b : Int), v2] ∧ ∃ l, SetsIn w v2 l
set_option maxRecDepth 100000 in
set_option maxHeartbeats 8000000 in
theorem algebraW (v0 v1 v2 : Value) (w : World) (hTab : Tabs w) (hv0 : DraftIn w v0) (hv1 : DraftIn w v1) (hv2 : DraftIn w v2) : Calls Tryd.prog 9 #[v0, v1, v2] w (RetV w (.bool true)) := by
  obtain ⟨b0, _, rfl, l0, A, n0, c0, rfl, hA0, hS0, hn0, _, h630, _⟩ := hv0
  obtain ⟨b1, _, rfl, l1, B, n1, c1, rfl, hB0, hS1, hn1, _, h631, _⟩ := hv1
  obtain ⟨b2, _, rfl, l2, C, n2, c2, rfl, hC0, hS2, hn2, _, h632, _⟩ := hv2
  have HTab := hide hTab
  have f0 := fun w hA => rof_any b0 A n0 c0 l0 w hA hn0 hS0 h630
  have f1 := fun w hA => rof_any b1 B n1 c1 l1 w hA hn1 hS1 h631
  have f2 := fun w hA => rof_any b2 C n2 c2 l2 w hA hn2 hS2 h632
  have HA := hide hA0
  have HB := hide hB0
  have HC := hide hC0
  obtain ⟨x, Hx⟩ : ∃ x, Hid (x = drf b0 l0) := ⟨_, rfl⟩
  obtain ⟨y, Hy⟩ : ∃ y, Hid (y = drf b1 l1) := ⟨_, rfl⟩
  obtain ⟨z, Hz⟩ : ∃ z, Hid (z = drf b2 l2) := ⟨_, rfl⟩
  have Fx : Hid (Fam6 x) := by show Fam6 x; rw [Hx.out]; exact fam6_drf _ _
  have Fy : Hid (Fam6 y) := by show Fam6 y; rw [Hy.out]; exact fam6_drf _ _
  have Fz : Hid (Fam6 z) := by show Fam6 z; rw [Hz.out]; exact fam6_drf _ _
  rw [← Hx.out] at f0
  rw [← Hy.out] at f1
  rw [← Hz.out] at f2
  obtain ⟨k0, hk0⟩ : ∃ k, 1 + b0 % 6 = k := ⟨_, rfl⟩
  obtain ⟨k1, hk1⟩ : ∃ k, 1 + b1 % 6 = k := ⟨_, rfl⟩
  obtain ⟨k2, hk2⟩ : ∃ k, 1 + b2 % 6 = k := ⟨_, rfl⟩
  obtain ⟨t0, ht0⟩ : ∃ t, decide (n0 ≤ 20) = t := ⟨_, rfl⟩
  obtain ⟨t1, ht1⟩ : ∃ t, decide (n1 ≤ 20) = t := ⟨_, rfl⟩
  obtain ⟨t2, ht2⟩ : ∃ t, decide (n2 ≤ 20) = t := ⟨_, rfl⟩
  rw [hk0, ht0] at f0
  rw [hk1, ht1] at f1
  rw [hk2, ht2] at f2
  clear hTab hA0 hB0 hC0 hk0 hk1 hk2 ht0 ht1 ht2 hS0 hS1 hS2 hn0 hn1 hn2 h630 h631 h632 Hx Hy Hz
  obtain ⟨W3, hW3, hup3, p10, p11, p20, p21, hsz3⟩ : ∃ W3, W3 = ((w.alloc (.cells #[.int .u8 (b0 : Int), .slice A n0 c0] 47)).alloc (.cells #[.int .u8 (b1 : Int), .slice B n1 c1] 47)).alloc (.cells #[.int .u8 (b2 : Int), .slice C n2 c2] 47) ∧ Up w W3 ∧ W3.cell? ⟨w.heap.size + 1, 0, none⟩ = some (.int .u8 (b1 : Int)) ∧ W3.cell? ⟨w.heap.size + 1, 1, none⟩ = some (.slice B n1 c1) ∧ W3.cell? ⟨w.heap.size + 1 + 1, 0, none⟩ = some (.int .u8 (b2 : Int)) ∧ W3.cell? ⟨w.heap.size + 1 + 1, 1, none⟩ = some (.slice C n2 c2) ∧ W3.heap.size = w.heap.size + 3 := by
    exact three_new w _ _ _ _ _ _ _ _ _
  go_enter Tryd.func9, Tryd.ntmps9
  go_wp2_with fail
  rw [← hW3]
  clear hW3
  refine (f0 W3 (HA.out.up hup3)).mono ?_
  intro e1 w1 hr1
  obtain ⟨A1, m1, d1, rfl, H1, hu1⟩ := retO_open hr1
  clear hr1
  have q10 : w1.cell? ⟨w.heap.size + 1, 0, none⟩ = some (.int .u8 (b1 : Int)) := by rw [hu1.cell (by show w.heap.size + 1 < _; omega)]; exact p10
  have q11 : w1.cell? ⟨w.heap.size + 1, 1, none⟩ = some (.slice B n1 c1) := by rw [hu1.cell (by show w.heap.size + 1 < _; omega)]; exact p11
  go_wp2_with fail
  refine (f1 w1 (HB.out.up (hup3.trans hu1))).mono ?_
  intro e2 w2 hr2
  obtain ⟨A2, m2, d2, rfl, H2, hu2⟩ := retO_open hr2
  have hu12 := hu1.trans hu2
  replace H1 : Hid (LV w2 A1 m1 d1 x) := H1.out.up hu2
  clear hr2 q10 q11 hu1 hu2
  have q20 : w2.cell? ⟨w.heap.size + 1 + 1, 0, none⟩ = some (.int .u8 (b2 : Int)) := by rw [hu12.cell (by show w.heap.size + 1 + 1 < _; omega)]; exact p20
  have q21 : w2.cell? ⟨w.heap.size + 1 + 1, 1, none⟩ = some (.slice C n2 c2) := by rw [hu12.cell (by show w.heap.size + 1 + 1 < _; omega)]; exact p21
  go_wp2_with fail
  refine (f2 w2 (HC.out.up (hup3.trans hu12))).mono ?_
  intro e3 w3 hr3
  obtain ⟨A3, m3, d3, rfl, H3, hu3⟩ := retO_open hr3
  have hup := (hup3.trans hu12).trans hu3
  replace H1 : Hid (LV w3 A1 m1 d1 x) := H1.out.up hu3
  replace H2 : Hid (LV w3 A2 m2 d2 y) := H2.out.up hu3
  clear hr3 q20 q21 hu12 hu3 hup3 p10 p11 p20 p21 hsz3 f0 f1 f2 HA HB HC
  by_cases hT : (t0 && t1 && t2) = true
  · obtain ⟨rfl, rfl, rfl⟩ : t0 = true ∧ t1 = true ∧ t2 = true := by simpa [and_assoc] using hT
    clear hT
    go_wp2_with fail
    refine (awake_any w3 (HTab.out.up hup)).mono ?_
    rintro e4 w4 ⟨rfl, hu4⟩
    replace hup := hup.trans hu4
    replace H1 : Hid (LV w4 A1 m1 d1 x) := H1.out.up hu4
    replace H2 : Hid (LV w4 A2 m2 d2 y) := H2.out.up hu4
    replace H3 : Hid (LV w4 A3 m3 d3 z) := H3.out.up hu4
    clear hu4 HTab
    have kA := and_six A1 A2 m1 d1 m2 d2 _ _ w4 H1 H2 (hide Fx.out) (hide Fy.out)
    obtain ⟨xA, XA⟩ : ∃ xA, Hid (xA = minS (prd x y)) := ⟨_, rfl⟩
    have FA : Hid (Fam6 xA) := by show Fam6 xA; rw [XA.out]; exact fam6_and Fx.out Fy.out
    rw [← XA.out] at kA
    go_wp2_with fail
    refine kA.mono ?_
    rintro e5 w5 ⟨AA, mA, dA, rfl, HA, hu⟩
    replace hup := hup.trans hu
    replace H1 : Hid (LV w5 A1 m1 d1 x) := H1.out.up hu
    replace H2 : Hid (LV w5 A2 m2 d2 y) := H2.out.up hu
    replace H3 : Hid (LV w5 A3 m3 d3 z) := H3.out.up hu
    clear hu kA
    have kB := and_six A2 A1 m2 d2 m1 d1 _ _ w5 H2 H1 (hide Fy.out) (hide Fx.out)
    obtain ⟨xB, XB⟩ : ∃ xB, Hid (xB = minS (prd y x)) := ⟨_, rfl⟩
    have FB : Hid (Fam6 xB) := by show Fam6 xB; rw [XB.out]; exact fam6_and Fy.out Fx.out
    rw [← XB.out] at kB
    go_wp2_with fail
    refine kB.mono ?_
    rintro e6 w6 ⟨AB, mB, dB, rfl, HB, hu⟩
    replace hup := hup.trans hu
    replace H1 : Hid (LV w6 A1 m1 d1 x) := H1.out.up hu
    replace H2 : Hid (LV w6 A2 m2 d2 y) := H2.out.up hu
    replace H3 : Hid (LV w6 A3 m3 d3 z) := H3.out.up hu
    replace HA : Hid (LV w6 AA mA dA xA) := HA.out.up hu
    clear hu kB
    have kC := or_six A2 A3 m2 d2 m3 d3 _ _ w6 H2 H3 (hide Fy.out) (hide Fz.out)
    obtain ⟨xC, XC⟩ : ∃ xC, Hid (xC = minS (y ++ z)) := ⟨_, rfl⟩
    have FC : Hid (Fam6 xC) := by show Fam6 xC; rw [XC.out]; exact fam6_or Fy.out Fz.out
    rw [← XC.out] at kC
    go_wp2_with fail
    refine kC.mono ?_
    rintro e7 w7 ⟨AC, mC, dC, rfl, HC, hu⟩
    replace hup := hup.trans hu
    replace H1 : Hid (LV w7 A1 m1 d1 x) := H1.out.up hu
    replace H2 : Hid (LV w7 A2 m2 d2 y) := H2.out.up hu
    replace H3 : Hid (LV w7 A3 m3 d3 z) := H3.out.up hu
    replace HA : Hid (LV w7 AA mA dA xA) := HA.out.up hu
    replace HB : Hid (LV w7 AB mB dB xB) := HB.out.up hu
    clear hu kC
    have kD := and_six A1 AC m1 d1 mC dC _ _ w7 H1 HC (hide Fx.out) (hide FC.out)
    obtain ⟨xD, XD⟩ : ∃ xD, Hid (xD = minS (prd x xC)) := ⟨_, rfl⟩
    have FD : Hid (Fam6 xD) := by show Fam6 xD; rw [XD.out]; exact fam6_and Fx.out FC.out
    rw [← XD.out] at kD
    go_wp2_with fail
    refine kD.mono ?_
    rintro e8 w8 ⟨AD, mD, dD, rfl, HD, hu⟩
    replace hup := hup.trans hu
    replace H1 : Hid (LV w8 A1 m1 d1 x) := H1.out.up hu
    replace H2 : Hid (LV w8 A2 m2 d2 y) := H2.out.up hu
    replace H3 : Hid (LV w8 A3 m3 d3 z) := H3.out.up hu
    replace HA : Hid (LV w8 AA mA dA xA) := HA.out.up hu
    replace HB : Hid (LV w8 AB mB dB xB) := HB.out.up hu
    clear hu kD HC
    have kE := and_six A1 A3 m1 d1 m3 d3 _ _ w8 H1 H3 (hide Fx.out) (hide Fz.out)
    obtain ⟨xE, XE⟩ : ∃ xE, Hid (xE = minS (prd x z)) := ⟨_, rfl⟩
    have FE : Hid (Fam6 xE) := by show Fam6 xE; rw [XE.out]; exact fam6_and Fx.out Fz.out
    rw [← XE.out] at kE
    go_wp2_with fail
    refine kE.mono ?_
    rintro e9 w9 ⟨AE, mE, dE, rfl, HE, hu⟩
    replace hup := hup.trans hu
    replace H1 : Hid (LV w9 A1 m1 d1 x) := H1.out.up hu
    replace H2 : Hid (LV w9 A2 m2 d2 y) := H2.out.up hu
    replace H3 : Hid (LV w9 A3 m3 d3 z) := H3.out.up hu
    replace HA : Hid (LV w9 AA mA dA xA) := HA.out.up hu
    replace HB : Hid (LV w9 AB mB dB xB) := HB.out.up hu
    replace HD : Hid (LV w9 AD mD dD xD) := HD.out.up hu
    clear hu kE
    have kF := or_six AA AE mA dA mE dE _ _ w9 HA HE (hide FA.out) (hide FE.out)
    obtain ⟨xF, XF⟩ : ∃ xF, Hid (xF = minS (xA ++ xE)) := ⟨_, rfl⟩
    have FF : Hid (Fam6 xF) := by show Fam6 xF; rw [XF.out]; exact fam6_or FA.out FE.out
    rw [← XF.out] at kF
    go_wp2_with fail
    refine kF.mono ?_
    rintro e10 w10 ⟨AF, mF, dF, rfl, HF, hu⟩
    replace hup := hup.trans hu
    replace H1 : Hid (LV w10 A1 m1 d1 x) := H1.out.up hu
    replace H2 : Hid (LV w10 A2 m2 d2 y) := H2.out.up hu
    replace H3 : Hid (LV w10 A3 m3 d3 z) := H3.out.up hu
    replace HA : Hid (LV w10 AA mA dA xA) := HA.out.up hu
    replace HB : Hid (LV w10 AB mB dB xB) := HB.out.up hu
    replace HD : Hid (LV w10 AD mD dD xD) := HD.out.up hu
    clear hu kF HE
    have kG := and_six A2 A3 m2 d2 m3 d3 _ _ w10 H2 H3 (hide Fy.out) (hide Fz.out)
    obtain ⟨xG, XG⟩ : ∃ xG, Hid (xG = minS (prd y z)) := ⟨_, rfl⟩
    have FG : Hid (Fam6 xG) := by show Fam6 xG; rw [XG.out]; exact fam6_and Fy.out Fz.out
    rw [← XG.out] at kG
    go_wp2_with fail
    refine kG.mono ?_
    rintro e11 w11 ⟨AG, mG, dG, rfl, HG, hu⟩
    replace hup := hup.trans hu
    replace H1 : Hid (LV w11 A1 m1 d1 x) := H1.out.up hu
    replace H3 : Hid (LV w11 A3 m3 d3 z) := H3.out.up hu
    replace HA : Hid (LV w11 AA mA dA xA) := HA.out.up hu
    replace HB : Hid (LV w11 AB mB dB xB) := HB.out.up hu
    replace HD : Hid (LV w11 AD mD dD xD) := HD.out.up hu
    replace HF : Hid (LV w11 AF mF dF xF) := HF.out.up hu
    clear hu kG H2
    have kH := and_six AA A3 mA dA m3 d3 _ _ w11 HA H3 (hide FA.out) (hide Fz.out)
    obtain ⟨xH, XH⟩ : ∃ xH, Hid (xH = minS (prd xA z)) := ⟨_, rfl⟩
    have FH : Hid (Fam6 xH) := by show Fam6 xH; rw [XH.out]; exact fam6_and FA.out Fz.out
    rw [← XH.out] at kH
    go_wp2_with fail
    refine kH.mono ?_
    rintro e12 w12 ⟨AH, mH, dH, rfl, HH, hu⟩
    replace hup := hup.trans hu
    replace H1 : Hid (LV w12 A1 m1 d1 x) := H1.out.up hu
    replace HA : Hid (LV w12 AA mA dA xA) := HA.out.up hu
    replace HB : Hid (LV w12 AB mB dB xB) := HB.out.up hu
    replace HD : Hid (LV w12 AD mD dD xD) := HD.out.up hu
    replace HF : Hid (LV w12 AF mF dF xF) := HF.out.up hu
    replace HG : Hid (LV w12 AG mG dG xG) := HG.out.up hu
    clear hu kH H3
    have kI := and_six A1 AG m1 d1 mG dG _ _ w12 H1 HG (hide Fx.out) (hide FG.out)
    obtain ⟨xI, XI⟩ : ∃ xI, Hid (xI = minS (prd x xG)) := ⟨_, rfl⟩
    have FI : Hid (Fam6 xI) := by show Fam6 xI; rw [XI.out]; exact fam6_and Fx.out FG.out
    rw [← XI.out] at kI
    go_wp2_with fail
    refine kI.mono ?_
    rintro e13 w13 ⟨AI, mI, dI, rfl, HI, hu⟩
    replace hup := hup.trans hu
    replace HA : Hid (LV w13 AA mA dA xA) := HA.out.up hu
    replace HB : Hid (LV w13 AB mB dB xB) := HB.out.up hu
    replace HD : Hid (LV w13 AD mD dD xD) := HD.out.up hu
    replace HF : Hid (LV w13 AF mF dF xF) := HF.out.up hu
    replace HH : Hid (LV w13 AH mH dH xH) := HH.out.up hu
    clear hu kI H1 HG
    have eAB : Hid (xA = xB) := by show xA = xB; rw [XA.out, XB.out]; exact and_comm6 Fx.out Fy.out
    have eDF : Hid (xD = xF) := by show xD = xF; rw [XD.out, XF.out, XC.out, XA.out, XE.out]; exact and_dist6 Fx.out Fy.out Fz.out
    have eHI : Hid (xH = xI) := by show xH = xI; rw [XH.out, XI.out, XA.out, XG.out]; exact and_assoc6 Fx.out Fy.out Fz.out
    have k := eq_six AA AB mA dA mB dB _ _ w13 HA HB FA eAB
    go_wp2_with fail
    refine k.mono ?_
    rintro e14 w14 ⟨rfl, hu⟩
    replace hup := hup.trans hu
    replace HD : Hid (LV w14 AD mD dD xD) := HD.out.up hu
    replace HF : Hid (LV w14 AF mF dF xF) := HF.out.up hu
    replace HH : Hid (LV w14 AH mH dH xH) := HH.out.up hu
    replace HI : Hid (LV w14 AI mI dI xI) := HI.out.up hu
    clear hu k
    have k := eq_six AD AF mD dD mF dF _ _ w14 HD HF FD eDF
    go_wp2_with fail
    refine k.mono ?_
    rintro e15 w15 ⟨rfl, hu⟩
    replace hup := hup.trans hu
    replace HH : Hid (LV w15 AH mH dH xH) := HH.out.up hu
    replace HI : Hid (LV w15 AI mI dI xI) := HI.out.up hu
    clear hu k
    have k := eq_six AH AI mH dH mI dI _ _ w15 HH HI FH eHI
    go_wp2_with fail
    refine k.mono ?_
    rintro e16 w16 ⟨rfl, hu⟩
    replace hup := hup.trans hu
    clear hu k
    go_wp2
    go_ret
    exact ⟨rfl, hup⟩
  · have hT2 : (t0 && t1 && t2) = false := by simpa using hT
    clear hT
    go_wp2_with fail
    refine (awake_any w3 (HTab.out.up hup)).mono ?_
    rintro e4 w4 ⟨rfl, hu4⟩
    replace hup := hup.trans hu4
    clear hu4
    cases t0 <;> cases t1 <;> cases t2 <;> first
      | exact absurd hT2 (by decide)
      | (clear hT2
         go_wp2_with fail
         refine (awake_any w4 (HTab.out.up hup)).mono ?_
         rintro e5 w5 ⟨rfl, hu5⟩
         go_wp2
         go_ret
         exact ⟨rfl, hup.trans hu5⟩)
end Go.Proofs.YtfdlmgjjpcdkpaaDoor
