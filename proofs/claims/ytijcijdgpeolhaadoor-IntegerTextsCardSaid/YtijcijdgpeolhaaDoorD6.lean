/- The program's bothValid, Sign, sum, Add, Sub, Mul on valid integers. -/
import Derived.Test.YtijcijdgpeolhaaDoorD5
import Derived.Test.YtijcijdgpeolhaaDoorC5
import Derived.Deep.RegionHeld3
namespace Go.Proofs.YtijcijdgpeolhaaDoor
open Go.RowKit

theorem rawValid_int {s : Bool} {z : Int} (hs : s = decide (z < 0)) (hz : z.natAbs < top300) : rawValid s (lim z.natAbs) = true := by
  unfold rawValid
  split
  · next h => rw [lim_len_zero] at h; rw [hs]; simp; omega
  · next h =>
    have hn : lim z.natAbs ≠ [] := fun e => h (by rw [e]; rfl)
    have h1 := lim_last z.natAbs _ (getLast_getD hn)
    have h2 := (digs_lim z.natAbs).2 hz
    have h3 := digB_iff.2 (dig_lim z.natAbs)
    rw [h3]; simp [h2]; simpa [List.getD] using h1

theorem validI_any (B : Nat) (v : Value) (x : Int) (w : World) (hv : IsInt B w v x) (hx : x.natAbs < top300) : Calls Tryd.prog 15 #[v] w fun e w' => e = .returned (.bool true) ∧ Up w w' := by
  obtain ⟨s, A, n, c, rfl, Hs, Hn, hl, hc, _⟩ := hv
  refine (valid_any s A c n _ w hl (dig_lim _).w32 Hn (by rw [Hn.out]; have := len_of_top hx; omega)).mono ?_
  rintro e w' ⟨rfl, hup⟩
  exact ⟨by rw [rawValid_int Hs.out hx], hup⟩

set_option maxHeartbeats 2000000 in
theorem both_any (B B' : Nat) (v v' : Value) (x y : Int) (w : World) (hv : IsInt B w v x) (hv' : IsInt B' w v' y) (hx : x.natAbs < top300) (hy : y.natAbs < top300) : Calls Tryd.prog 41 #[v, v'] w fun e w' => e = .returned (.bool true) ∧ Up w w' := by
  obtain ⟨s, A, n, c, rfl, Hs, Hn, hl, hc, hN⟩ := hv
  obtain ⟨t, C, m, d, rfl, Ht, Hm, hm, hd, hN'⟩ := hv'
  obtain ⟨w0, hw0⟩ : ∃ w0, w0 = ((w.alloc (.cells #[.bool s, .slice A n c] 25)).alloc (.cells #[.bool t, .slice C m d] 25)) := ⟨_, rfl⟩
  have hb1 : Bk w0 (w.heap.size) 25 #[.bool s, .slice A n c] := by
    have := (Bk.new w 25 #[.bool s, .slice A n c]).alloc (.cells #[.bool t, .slice C m d] 25)
    rw [hw0]; simpa using this
  have hb2 : Bk w0 (w.heap.size + 1) 25 #[.bool t, .slice C m d] := by
    have := Bk.new (w.alloc (.cells #[.bool s, .slice A n c] 25)) 25 #[.bool t, .slice C m d]
    rw [hw0]; simpa using this
  have hup0 : Up w w0 := by rw [hw0]; exact ((Up.refl w).alloc _).alloc _
  have hsz0 : w.heap.size + 2 ≤ w0.heap.size := by rw [hw0]; simp
  have Hw0 := hide hw0
  clear hw0
  have e1a := hb1.cell (i := 0) rfl
  have e1b := hb1.cell (i := 1) rfl
  have e2a := hb2.cell (i := 0) rfl
  have e2b := hb2.cell (i := 1) rfl
  go_enter Tryd.func41, Tryd.ntmps41
  go_wp2_with fail
  rw [← Hw0.out]
  refine (validI_any B _ x w0 ⟨s, A, n, c, rfl, Hs, Hn, hl.up hup0, hc, hN⟩ hx).mono ?_
  rintro e w1 ⟨rfl, hup1⟩
  have g1 := hup1.keep e2a
  have g2 := hup1.keep e2b
  go_wp2_with fail
  refine (validI_any B' _ y w1 ⟨t, C, m, d, rfl, Ht, Hm, hm.up (hup0.trans hup1), hd, hN'⟩ hy).mono ?_
  rintro e w2 ⟨rfl, hup2⟩
  go_wp2
  go_ret
  exact ⟨rfl, (hup0.trans hup1).trans hup2⟩

end Go.Proofs.YtijcijdgpeolhaaDoor
