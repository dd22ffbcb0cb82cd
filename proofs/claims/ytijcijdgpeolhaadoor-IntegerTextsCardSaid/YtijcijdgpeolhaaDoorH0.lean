/- Whole integers: equality, and Of at every number; what the laws' awake returns. -/
import Derived.Test.YtijcijdgpeolhaaDoorC8
import Derived.Test.YtijcijdgpeolhaaDoorD7
import Derived.Test.YtijcijdgpeolhaaDoorF2
import Derived.Test.YtijcijdgpeolhaaDoorF3
import Derived.Test.YtijcijdgpeolhaaDoorG1
namespace Go.Proofs.YtijcijdgpeolhaaDoor
open Go.RowKit

theorem equalI (B B' : Nat) (v v' : Value) (x : Int) (w : World) (hv : IsInt B w v x) (hv' : IsInt B' w v' x) (hx : x.natAbs < top300) :
    Calls Tryd.prog 13 #[v, v'] w fun e w' => e = .returned (.bool true) ∧ Up w w' := by
  obtain ⟨s, A, n, c, rfl, Hs, Hn, hl, hc, _⟩ := hv
  obtain ⟨t, C, m, d, rfl, Ht, Hm, hm, hd, _⟩ := hv'
  obtain rfl : s = t := Hs.out.trans Ht.out.symm
  obtain rfl : n = m := Hn.out.trans Hm.out.symm
  exact equal_any s A C c d n _ w hl hm (dig_lim _).w32 Hn (by rw [Hn.out]; have := len_of_top hx; omega)
theorem i64_sgn {z : Int} (h1 : -9223372036854775808 ≤ z) (h2 : z ≤ 9223372036854775807) : Hid (z = sgn (decide (z < 0)) z.natAbs ∧ (z.natAbs = 0 → decide (z < 0) = false)) ∧ z.natAbs ≤ 9223372036854775808 ∧ (decide (z < 0) = false → z.natAbs ≤ 9223372036854775807) := by
  refine ⟨⟨?_, ?_⟩, by omega, ?_⟩
  · unfold sgn; by_cases h : z < 0 <;> simp [h] <;> omega
  · intro h; simp; omega
  · intro h; simp at h; omega
theorem ofI (z : Int) (w : World) (h1 : -9223372036854775808 ≤ z) (h2 : z ≤ 9223372036854775807) : Calls Tryd.prog 17 #[.int .i64 z] w (RetInt w z) :=
  of_any z _ _ w (i64_sgn h1 h2).1 (i64_sgn h1 h2).2.1 (i64_sgn h1 h2).2.2
theorem rofI (z : Int) (w : World) (h1 : -9223372036854775808 ≤ z) (h2 : z ≤ 9223372036854775807) : Calls Tryd.prog 20 #[.int .i64 z] w (RetInt w z) :=
  rof_any z _ _ w (i64_sgn h1 h2).1 (i64_sgn h1 h2).2.1 (i64_sgn h1 h2).2.2
theorem i64_top {z : Int} (h1 : -9223372036854775808 ≤ z) (h2 : z ≤ 9223372036854775807) : z.natAbs < top300 := word_top (by omega)
theorem two_new (w : World) (X Y : Array Value) (t t' : TypeId) : Bk ((w.alloc (.cells X t)).alloc (.cells Y t')) w.heap.size t X ∧ Bk ((w.alloc (.cells X t)).alloc (.cells Y t')) (w.heap.size + 1) t' Y :=
  ⟨(Bk.new w t X).alloc _, by have := Bk.new (w.alloc (.cells X t)) t' Y; rwa [World.size_alloc] at this⟩
theorem lit_int (w : World) (l : List Nat) (cs : Array Value) (s : Bool) (n : Nat) (z : Int) (hl : l.length = n) (hn : n ≤ 1000000) (hcs : cs = (u32s l).toArray) (hz : l = lim z.natAbs) (hs : s = decide (z < 0)) :
    IsInt 0 (w.alloc (.cells cs 41)) (.agg #[.bool s, .slice (some ⟨w.heap.size, 0, none⟩) n n]) z := by
  have hown := Own.lit w (base := 0) (n := n) l cs (Nat.zero_le _) hn hl hcs
  obtain ⟨A, c, hA, hc, hlim, _⟩ := hown.lim
  cases hA
  exact ⟨s, _, n, n, rfl, hs, by rw [← hz]; exact hl.symm, by rw [← hz]; exact hlim, Nat.le_refl _, fun _ _ => Nat.zero_le _⟩
theorem lim_awake : [7, 1] = lim (-1000000007 : Int).natAbs := by
  rw [show (-1000000007 : Int).natAbs = 1000000007 from rfl, lim_pos (by decide), show 1000000007 / 1000000000 = 1 from rfl, lim_pos (by decide), show 1 / 1000000000 = 0 from rfl, lim_zero]

end Go.Proofs.YtijcijdgpeolhaaDoor
