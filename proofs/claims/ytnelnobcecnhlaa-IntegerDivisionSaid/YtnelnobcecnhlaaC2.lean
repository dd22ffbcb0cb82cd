/- The reference's Neg, Abs, Add, Sub, Mul. -/
import Derived.Test.YtnelnobcecnhlaaC1
import Derived.Deep.RegionHeld3
namespace Go.Proofs.Ytnelnobcecnhlaa
open Go.RowKit

theorem sgn_int (z : Int) (t : Bool) : sgn t z.natAbs = if t = decide (z < 0) then z else -z := by
  unfold sgn
  by_cases h : z < 0 <;> cases t <;> simp [h] <;> omega

set_option maxHeartbeats 2000000 in
theorem neg_any (B : Nat) (v : Value) (z : Int) (w : World) (hv : IsInt B w v z) (hz : z.natAbs < top300) :
    Calls Try.prog 50 #[v] w (RetInt w (-z)) := by
  obtain ⟨s, A, n, c, rfl, Hs, Hn, hl, hc, _⟩ := hv
  have hn : n ≤ 34 := by rw [Hn.out]; exact len_of_top hz
  obtain ⟨w0, hw0⟩ : ∃ w0, w0 = (w.alloc (.cells #[.bool s, .slice A n c] 24)).alloc (.cells #[.bool false, .slice none 0 0] 24) := ⟨_, rfl⟩
  have hb0 : Bk w0 (w.heap.size + 1) 24 #[.bool false, .slice none 0 0] := by
    have := Bk.new (w.alloc (.cells #[.bool s, .slice A n c] 24)) 24 #[.bool false, .slice none 0 0]
    rw [hw0]; simpa using this
  have hup0 : Up w w0 := by rw [hw0]; exact ((Up.refl w).alloc _).alloc _
  have hsg : Hid (sgn (!s) (val (lim z.natAbs)) = -z) := by
    show _ = _
    rw [val_lim, sgn_int, Hs.out]
    simp
  have Hw0 := hide hw0
  clear hw0
  go_enter Try.func50, Try.ntmps50
  go_wp2_with fail
  rw [← Hw0.out]
  refine (make_any (!s) A c (lim z.natAbs) _ (hl.up hup0) (dig_lim _) n Hn (by omega)).mono ?_
  rintro e w1 ⟨v1, rfl, hv1, hup1⟩
  rw [hsg.out] at hv1 ⊢
  rw [(bnd_ok (z := -z) (by omega)).1] at hv1
  obtain ⟨s1, A1, n1, c1, rfl, Hs1, Hn1, hl1', hc1, hnew1⟩ := hv1
  have hsz0 : w0.heap.size = w.heap.size + 2 := by rw [Hw0.out]; simp
  rw [hsz0] at hnew1
  clear hsz0
  have hb1 := hb0.up hup1
  have hlt := hb1.lt
  have hcA := hb1.cell (i := 0) rfl
  have hcB := hb1.cell (i := 1) rfl
  have hfA := hb1.frozen 0
  have hfB := hb1.frozen 1
  have hup2 := hup0.trans hup1
  have HQ := hide (fun o => ((hb1.two_bk (.bool s1) (.slice A1 n1 c1)).alloc o).cell (i := 0) rfl)
  have HQ2 := hide (fun o => ((hb1.two_bk (.bool s1) (.slice A1 n1 c1)).alloc o).cell (i := 1) rfl)
  clear hb0 hup0 hup1
  go_wp2
  refine bodyPost_ret (v := .agg #[.bool s1, .slice A1 n1 c1]) (by simp [results, Try.results50, go_sem, HQ.out, HQ2.out]) rfl ⟨_, rfl, ⟨s1, A1, n1, c1, rfl, Hs1, Hn1, ?_, hc1, hnew1.mono (by omega)⟩, ?_⟩
  · exact (hl1'.two hnew1 _ _).up ((Up.refl _).alloc _)
  · exact (hup2.two (by omega) _ _).alloc _
end Go.Proofs.Ytnelnobcecnhlaa
