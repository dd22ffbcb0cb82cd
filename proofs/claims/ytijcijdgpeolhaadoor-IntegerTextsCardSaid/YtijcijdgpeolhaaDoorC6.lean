/- The reference's Of. -/
import Derived.Test.YtijcijdgpeolhaaDoorC1
namespace Go.Proofs.YtijcijdgpeolhaaDoor
open Go.RowKit

theorem wneg (k : Nat) (h0 : 0 < k) (h : k ≤ 9223372036854775808) : IntKind.u64.wrap (-IntKind.u64.wrap (-(k : Int))) = (k : Int) := by
  rw [IntKind.wrap_u64, IntKind.wrap_u64]; omega
/-- Three limbs of a word. -/
def lim3 (k : Nat) : List Nat := [k % 1000000000, k / 1000000000 % 1000000000, k / 1000000000 / 1000000000]
theorem lim3_val (k : Nat) : val (lim3 k) = k := by simp only [lim3, val]; omega
theorem lim3_dig {k : Nat} (h : k < 18446744073709551616) : Dig (lim3 k) := by
  intro x hx
  simp only [lim3, List.mem_cons, List.not_mem_nil, or_false] at hx
  rcases hx with rfl | rfl | rfl <;> omega
theorem word_top {k : Nat} (h : k < 18446744073709551616) : k < top300 := by
  have h1 : bas 3 ≤ bas 33 := bas_mono (by omega)
  have h2 : bas 3 = 1000000000000000000000000000 := rfl
  unfold top300; omega

set_option maxHeartbeats 2000000 in
theorem rof_any (z : Int) (k : Nat) (s : Bool) (w : World) (Hz : Hid (z = sgn s k ∧ (k = 0 → s = false))) (hk : k ≤ 9223372036854775808) (hk2 : s = false → k ≤ 9223372036854775807) :
    Calls Tryd.prog 20 #[.int .i64 z] w (RetInt w z) := by
  obtain ⟨w0, hw0⟩ : ∃ w0, w0 = w.alloc (.cells #[.bool false, .slice none 0 0] 25) := ⟨_, rfl⟩
  have hb0 : Bk w0 w.heap.size 25 #[.bool false, .slice none 0 0] := by rw [hw0]; exact Bk.new w _ _
  have hup0 : Up w w0 := by rw [hw0]; exact (Up.refl w).alloc _
  have hsz0 : w0.heap.size = w.heap.size + 1 := by rw [hw0]; simp
  have hown := Own.lit w0 (base := 0) (n := 3) (lim3 k) #[.int .u32 ((k % 1000000000 : Nat) : Int), .int .u32 ((k / 1000000000 % 1000000000 : Nat) : Int), .int .u32 ((k / 1000000000 / 1000000000 : Nat) : Int)] (by omega) (by omega) rfl rfl
  obtain ⟨A, c, hA, hc, hl, _⟩ := hown.lim
  cases hA
  have Hw0 := hide hw0
  clear hw0 hown hc
  have hdig := lim3_dig (k := k) (by omega)
  have key : ∀ (w1 : World) (a b d : Int), a = ((k % 1000000000 : Nat) : Int) → b = ((k / 1000000000 % 1000000000 : Nat) : Int) → d = ((k / 1000000000 / 1000000000 : Nat) : Int) → w1 = w0.alloc (.cells #[.int .u32 a, .int .u32 b, .int .u32 d] 41) →
      Calls Tryd.prog 16 #[.bool s, .slice (some ⟨w0.heap.size, 0, none⟩) 3 3] w1 fun e w2 => ∃ s2 A2 n2 c2, e = .returned (.tuple #[.agg #[.bool s2, .slice A2 n2 c2], .int .i64 0]) ∧ Hid (s2 = decide (z < 0)) ∧ Hid (n2 = (lim z.natAbs).length) ∧ Lim w2 A2 (lim z.natAbs) ∧ n2 ≤ c2 ∧ NewB (w.heap.size + 1) A2 ∧ Up w w2 ∧ Bk w2 w.heap.size 25 #[.bool false, .slice none 0 0] := by
    rintro w1 a b d rfl rfl rfl rfl
    refine (make_any s _ _ (lim3 k) _ hl hdig 3 rfl (by omega)).mono ?_
    rintro e w2 ⟨v2, rfl, hv2, hup2⟩
    rw [lim3_val, ← Hz.out.1] at hv2 ⊢
    have hzt : z.natAbs < top300 := by rw [Hz.out.1, sgn_abs]; exact word_top (by omega)
    rw [(bnd_ok hzt).1] at hv2
    rw [(bnd_ok hzt).2]
    obtain ⟨s2, A2, n2, c2, rfl, Hs2, Hn2, hl2, hc2, hnew2⟩ := hv2
    exact ⟨s2, A2, n2, c2, rfl, Hs2, Hn2, hl2, hc2, hnew2.mono (by simp; omega), (hup0.alloc _).trans hup2, (hb0.alloc _).up hup2⟩
  rw [hsz0] at key
  have KEY := hide key
  clear key hb0 hup0 hl hdig
  have go : ∀ e w2, (∃ s2 A2 n2 c2, e = Ending.returned (.tuple #[.agg #[.bool s2, .slice A2 n2 c2], .int .i64 0]) ∧ Hid (s2 = decide (z < 0)) ∧ Hid (n2 = (lim z.natAbs).length) ∧ Lim w2 A2 (lim z.natAbs) ∧ n2 ≤ c2 ∧ NewB (w.heap.size + 1) A2 ∧ Up w w2 ∧ Bk w2 w.heap.size 25 #[.bool false, .slice none 0 0]) → True := fun _ _ _ => trivial
  clear go
  cases s
  · obtain rfl : z = (k : Int) := by rw [Hz.out.1]; rfl
    have hk3 := hk2 rfl
    clear hk2
    go_enter Tryd.func20, Tryd.ntmps20
    go_wp2_with fail
    refine (KEY.out _ ((k : Int) % 1000000000) ((k : Int) / 1000000000 % 1000000000) ((k : Int) / 1000000000 / 1000000000) (by omega) (by omega) (by omega) (by rw [Hw0.out])).mono ?_
    rintro e w2 ⟨s2, A2, n2, c2, rfl, Hs2, Hn2, hl2, hc2, hnew2, hup2, hb2⟩
    have f1 := hb2.cell (i := 0) rfl
    have f2 := hb2.cell (i := 1) rfl
    have f3 := hb2.frozen 0
    have f4 := hb2.frozen 1
    have f5 := hb2.lt
    have HQ := hide (fun o => ((hb2.two_bk (.bool s2) (.slice A2 n2 c2)).alloc o).cell (i := 0) rfl)
    have HQ2 := hide (fun o => ((hb2.two_bk (.bool s2) (.slice A2 n2 c2)).alloc o).cell (i := 1) rfl)
    go_wp2
    refine bodyPost_ret (v := .agg #[.bool s2, .slice A2 n2 c2]) (by simp [results, Tryd.results20, go_sem, HQ.out, HQ2.out]) rfl ⟨_, rfl, ⟨s2, A2, n2, c2, rfl, Hs2, Hn2, (hl2.two hnew2 _ _).up ((Up.refl _).alloc _), hc2, hnew2.mono (by omega)⟩, (hup2.two (Nat.le_refl _) _ _).alloc _⟩
  · obtain rfl : z = -(k : Int) := by rw [Hz.out.1]; rfl
    have hk0 : 0 < k := Nat.pos_of_ne_zero fun h => by have := Hz.out.2 h; cases this
    have hwn := wneg k hk0 hk
    clear hk2
    go_enter Tryd.func20, Tryd.ntmps20
    go_wp2_with fail
    refine (KEY.out _ ((k : Int) % 1000000000) ((k : Int) / 1000000000 % 1000000000) ((k : Int) / 1000000000 / 1000000000) (by omega) (by omega) (by omega) (by rw [Hw0.out])).mono ?_
    rintro e w2 ⟨s2, A2, n2, c2, rfl, Hs2, Hn2, hl2, hc2, hnew2, hup2, hb2⟩
    have f1 := hb2.cell (i := 0) rfl
    have f2 := hb2.cell (i := 1) rfl
    have f3 := hb2.frozen 0
    have f4 := hb2.frozen 1
    have f5 := hb2.lt
    have HQ := hide (fun o => ((hb2.two_bk (.bool s2) (.slice A2 n2 c2)).alloc o).cell (i := 0) rfl)
    have HQ2 := hide (fun o => ((hb2.two_bk (.bool s2) (.slice A2 n2 c2)).alloc o).cell (i := 1) rfl)
    go_wp2
    refine bodyPost_ret (v := .agg #[.bool s2, .slice A2 n2 c2]) (by simp [results, Tryd.results20, go_sem, HQ.out, HQ2.out]) rfl ⟨_, rfl, ⟨s2, A2, n2, c2, rfl, Hs2, Hn2, (hl2.two hnew2 _ _).up ((Up.refl _).alloc _), hc2, hnew2.mono (by omega)⟩, (hup2.two (Nat.le_refl _) _ _).alloc _⟩
end Go.Proofs.YtijcijdgpeolhaaDoor
