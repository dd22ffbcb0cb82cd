/- The law on the text of a token. -/
import Derived.Test.YtnhncakkbfjdjaaDoorVe
import Derived.Deep.RegionHeld3
import Derived.ProofKit
import Derived.OpenShut
import Derived.Lib.SmallJoins
import Derived.Deep.DeepHandedRow
namespace Go.Proofs.YtnhncakkbfjdjaaDoor
open Go.RowKit

/-- A token, as the machine may meet one. -/
def TokIn (v : Value) : Prop := ∃ (kd : Int) (a : ByteArray) (n : Int) (b : ByteArray) (ln : Int), v = .agg #[.int .i64 kd, .string a, .int .i64 n, .string b, .int .i64 ln] ∧ Fits n ∧ a.size ≤ 9223372036854775807 ∧ b.size ≤ 9223372036854775807
open Go.ChangeShapes Go.WideShapes Go.ChangeAt Go.Joins Go.Deep in
theorem array5 {α : Type} {cs : Array α} (h : cs.size = 5) : ∃ c0 c1 c2 c3 c4, cs = #[c0, c1, c2, c3, c4] := by
  obtain ⟨l⟩ := cs
  match l, h with
  | [c0, c1, c2, c3, c4], _ => exact ⟨c0, c1, c2, c3, c4, rfl⟩
open Go.ChangeShapes Go.WideShapes Go.ChangeAt Go.Joins Go.Deep in
set_option maxRecDepth 100000 in
theorem tok_struct : ∃ f0 f1 f2 f3 f4 : Field, Tryd.prog.underlying 30 = some (.struct #[f0, f1, f2, f3, f4]) ∧ oneCellFields Tryd.prog #[f0, f1, f2, f3, f4] = true ∧ Tryd.prog.underlying f0.type = some (.int .i64) ∧ Tryd.prog.underlying f1.type = some .string ∧ Tryd.prog.underlying f2.type = some (.int .i64) ∧ Tryd.prog.underlying f3.type = some .string ∧ Tryd.prog.underlying f4.type = some (.int .i64) :=
  ⟨_, _, _, _, _, Tryd.underlying30, by kernel_rfl, by kernel_rfl, by kernel_rfl, by kernel_rfl, by kernel_rfl, by kernel_rfl⟩
open Go.ChangeShapes Go.WideShapes Go.ChangeAt Go.Joins Go.Deep in
set_option maxRecDepth 100000 in
theorem tok_open {H : Type} {enc : TypeId × Value → H} {w : World} {held : Bool} {base : Nat} {v : Value} {d : DataW H} {p : List MemPlace} (hv : Value.okWide Tryd.prog w .any base 30 v) (h : DataW.Trod enc Tryd.prog w 0 (fun _ => true) held 30 v d p) : TokIn v := by
  obtain ⟨f0, f1, f2, f3, f4, hs, hone, u0, u1, u2, u3, u4⟩ := tok_struct
  obtain ⟨cs, rfl, hsz⟩ := okWide_struct hs hv
  obtain ⟨c0, c1, c2, c3, c4, rfl⟩ := array5 (hsz.trans (by kernel_rfl : Tryd.prog.cellsOf 30 = 5))
  obtain ⟨fuel, hf⟩ := h
  obtain ⟨xs, n, _, hx, hl, hlen, hf⟩ := DataW.trod_struct hs hf
  match xs, hlen with
  | [y0, y1, y2, y3, y4], _ =>
    obtain ⟨o0, k0⟩ := hone_of hone 0 f0 rfl
    obtain ⟨o1, k1⟩ := hone_of hone 1 f1 rfl
    obtain ⟨o2, k2⟩ := hone_of hone 2 f2 rfl
    obtain ⟨o3, k3⟩ := hone_of hone 3 f3 rfl
    obtain ⟨o4, k4⟩ := hone_of hone 4 f4 rfl
    have h0 := hf 0 f0 rfl
    have h1 := hf 1 f1 rfl
    have h2 := hf 2 f2 rfl
    have h3 := hf 3 f3 rfl
    have h4 := hf 4 f4 rfl
    simp [Value.cells, o0, k0] at h0
    simp [Value.cells, o1, k1] at h1
    simp [Value.cells, o2, k2] at h2
    simp [Value.cells, o3, k3] at h3
    simp [Value.cells, o4, k4] at h4
    obtain ⟨kd, e0, _, _⟩ := DataW.trod_int u0 h0
    obtain ⟨a, e1, _, ha⟩ := DataW.trod_string u1 h1
    obtain ⟨nn, e2, _, hn⟩ := DataW.trod_int u2 h2
    obtain ⟨b, e3, _, hb⟩ := DataW.trod_string u3 h3
    obtain ⟨ln, e4, _, _⟩ := DataW.trod_int u4 h4
    simp at e0 e1 e2 e3 e4
    subst e0 e1 e2 e3 e4
    simp [Lit.wf] at hn
    have m1 : IntKind.i64.min = -9223372036854775808 := rfl
    have m2 : IntKind.i64.max = 9223372036854775807 := rfl
    exact ⟨kd, a, nn, b, ln, rfl, ⟨by omega, by omega⟩, ha, hb⟩
set_option maxRecDepth 100000 in
set_option maxHeartbeats 4000000 in
theorem wordW (v : Value) (w : World) (hTab : Tabs w) (hv : TokIn v) : Calls Tryd.prog 5 #[v] w (RetB w true) := by
  have HTab := hide hTab
  clear hTab
  obtain ⟨kd, a, n, b, ln, rfl, hF, ha, hb⟩ := hv
  by_cases h2 : a.size ≤ 1000
  · have d1 : decide ((1000 : Int) < a.size) = false := decide_eq_false (by omega)
    by_cases h3 : b.size ≤ 1000
    · have d2 : decide ((1000 : Int) < b.size) = false := decide_eq_false (by omega)
      obtain ⟨S, HS⟩ : ∃ S, Hid (S = wordB kd a n b) := ⟨_, rfl⟩
      have q : (S.toList == S.toList) = true := by simp
      go_enter Tryd.func5, Tryd.ntmps5
      go_wp2_with fail
      refine (awake_any _ (HTab.out.up ((Up.refl w).alloc _))).mono ?_
      rintro e w1 ⟨rfl, hu1⟩
      have c0 : w1.cell? ⟨w.heap.size, 0, none⟩ = some (.int .i64 kd) := up_keep hu1 (by rw [World.cell?_alloc_new]; rfl)
      have c1 : w1.cell? ⟨w.heap.size, 1, none⟩ = some (.string a) := up_keep hu1 (by rw [World.cell?_alloc_new]; rfl)
      have c2 : w1.cell? ⟨w.heap.size, 2, none⟩ = some (.int .i64 n) := up_keep hu1 (by rw [World.cell?_alloc_new]; rfl)
      have c3 : w1.cell? ⟨w.heap.size, 3, none⟩ = some (.string b) := up_keep hu1 (by rw [World.cell?_alloc_new]; rfl)
      have c4 : w1.cell? ⟨w.heap.size, 4, none⟩ = some (.int .i64 ln) := up_keep hu1 (by rw [World.cell?_alloc_new]; rfl)
      go_wp2_with fail
      have hupA : Up w1 w1.drew := (Up.refl w1).drew
      go_region_held3 (fun w' => w'.cell? ⟨w.heap.size, 0, none⟩ = some (.int .i64 kd) ∧ w'.cell? ⟨w.heap.size, 1, none⟩ = some (.string a) ∧ w'.cell? ⟨w.heap.size, 2, none⟩ = some (.int .i64 n) ∧ w'.cell? ⟨w.heap.size, 3, none⟩ = some (.string b) ∧ w'.cell? ⟨w.heap.size, 4, none⟩ = some (.int .i64 ln))
        (exact ⟨up_keep hupA c0, up_keep hupA c1, up_keep hupA c2, up_keep hupA c3, up_keep hupA c4⟩)
        (first
          | (go_at_call 15; refine (word_any kd a n b ln _ (HTab.out.up ((up_alloc_up hu1).trans hupA)) (by omega) hF).mono ?_; rw [← HS.out]; rintro e w2 ⟨rfl, hup2⟩; replace hupA := hupA.trans hup2)
          | (go_at_call 16; refine (rword_any kd a n b ln _ (HTab.out.up ((up_alloc_up hu1).trans hupA)) (by omega) hF).mono ?_; rw [← HS.out]; rintro e w2 ⟨rfl, hup2⟩; replace hupA := hupA.trans hup2))
      go_wp2
      go_ret
      exact ⟨rfl, (up_alloc_up hu1).trans hupA⟩
    · have d2 : decide ((1000 : Int) < b.size) = true := decide_eq_true (by omega)
      go_enter Tryd.func5, Tryd.ntmps5
      go_wp2_with fail
      refine (awake_any _ (HTab.out.up ((Up.refl w).alloc _))).mono ?_
      rintro e w1 ⟨rfl, hu1⟩
      have c0 : w1.cell? ⟨w.heap.size, 0, none⟩ = some (.int .i64 kd) := up_keep hu1 (by rw [World.cell?_alloc_new]; rfl)
      have c1 : w1.cell? ⟨w.heap.size, 1, none⟩ = some (.string a) := up_keep hu1 (by rw [World.cell?_alloc_new]; rfl)
      have c2 : w1.cell? ⟨w.heap.size, 2, none⟩ = some (.int .i64 n) := up_keep hu1 (by rw [World.cell?_alloc_new]; rfl)
      have c3 : w1.cell? ⟨w.heap.size, 3, none⟩ = some (.string b) := up_keep hu1 (by rw [World.cell?_alloc_new]; rfl)
      have c4 : w1.cell? ⟨w.heap.size, 4, none⟩ = some (.int .i64 ln) := up_keep hu1 (by rw [World.cell?_alloc_new]; rfl)
      go_wp2_with fail
      refine (awake_any _ (HTab.out.up (up_alloc_up hu1))).mono ?_
      rintro e w2 ⟨rfl, hu2⟩
      go_wp2
      go_ret
      exact ⟨rfl, (up_alloc_up hu1).trans hu2⟩
  · have d1 : decide ((1000 : Int) < a.size) = true := decide_eq_true (by omega)
    go_enter Tryd.func5, Tryd.ntmps5
    go_wp2_with fail
    refine (awake_any _ (HTab.out.up ((Up.refl w).alloc _))).mono ?_
    rintro e w1 ⟨rfl, hu1⟩
    have c0 : w1.cell? ⟨w.heap.size, 0, none⟩ = some (.int .i64 kd) := up_keep hu1 (by rw [World.cell?_alloc_new]; rfl)
    have c1 : w1.cell? ⟨w.heap.size, 1, none⟩ = some (.string a) := up_keep hu1 (by rw [World.cell?_alloc_new]; rfl)
    have c2 : w1.cell? ⟨w.heap.size, 2, none⟩ = some (.int .i64 n) := up_keep hu1 (by rw [World.cell?_alloc_new]; rfl)
    have c3 : w1.cell? ⟨w.heap.size, 3, none⟩ = some (.string b) := up_keep hu1 (by rw [World.cell?_alloc_new]; rfl)
    have c4 : w1.cell? ⟨w.heap.size, 4, none⟩ = some (.int .i64 ln) := up_keep hu1 (by rw [World.cell?_alloc_new]; rfl)
    go_wp2_with fail
    refine (awake_any _ (HTab.out.up (up_alloc_up hu1))).mono ?_
    rintro e w2 ⟨rfl, hu2⟩
    go_wp2
    go_ret
    exact ⟨rfl, (up_alloc_up hu1).trans hu2⟩
end Go.Proofs.YtnhncakkbfjdjaaDoor
