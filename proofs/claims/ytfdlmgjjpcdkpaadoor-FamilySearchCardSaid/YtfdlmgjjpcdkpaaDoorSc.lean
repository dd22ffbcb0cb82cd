/- Walks: how many members a set has, and its least one, by the library's tables. -/
import Derived.Test.YtfdlmgjjpcdkpaaDoorSb
import Derived.Lib.Tables
import Derived.Lib.LaidTab
import Derived.Lib.ItoaNum
namespace Go.Proofs.YtfdlmgjjpcdkpaaDoor
open Go.RowKit

theorem pop_size : Lib.pop8tab.size = 256 := by decide +kernel
theorem pop_all : ∀ n : Fin 256, (Lib.pop8tab.get! n.val).toNat = (mem 8 n.val).length := by decide +kernel
theorem pop_at (k : Nat) (h : k < 256) (h' : k < Lib.pop8tab.size) : (Lib.pop8tab[k]'h').toNat = (mem 8 k).length := by
  rw [← pop_all ⟨k, h⟩]
  show _ = (Lib.pop8tab.data[k]!).toNat
  rw [getElem!_pos Lib.pop8tab.data k h']
  rfl
theorem mem_split (s : Nat) : (mem 16 s).length = (mem 8 (s / 256)).length + (mem 8 (s % 256)).length := by
  unfold mem
  rw [show (16 : Nat) = 8 + 8 from rfl, List.range_add, List.filter_append, List.length_append, List.filter_map, List.length_map, Nat.add_comm]
  congr 1
  · congr 1
    refine List.filter_congr fun i _ => ?_
    show s.testBit (8 + i) = _
    rw [show (256 : Nat) = 2 ^ 8 from rfl, Nat.testBit_div_two_pow, Nat.add_comm]
  · congr 1
    refine List.filter_congr fun i hi => ?_
    have hi := List.mem_range.1 hi
    rw [show (256 : Nat) = 2 ^ 8 from rfl, Nat.testBit_mod_two_pow]
    simp [hi]
theorem and255 {s : Nat} (hs : s < 65536) : bits .and .u16 (s : Int) 255 = ((s % 256 : Nat) : Int) := by
  have := and16 (b := 255) hs
  rw [show ((255 : Nat) : Int) = 255 from rfl] at this
  rw [this, Nat.and_two_pow_sub_one_eq_mod s 8]
set_option maxRecDepth 100000 in
set_option maxHeartbeats 2000000 in
theorem ones_any (s : Nat) (w : World) (hs : s < 65536) : Calls Tryd.prog 79 #[.int .u16 (s : Int)] w fun e w' => e = .returned (.int .i64 (cnt s : Int)) ∧ w' = w.drew := by
  obtain ⟨a, ha⟩ : ∃ a : Nat, (s : Int) / 256 = (a : Int) := ⟨s / 256, by omega⟩
  obtain ⟨b, hb⟩ : ∃ b : Nat, s % 256 = b := ⟨_, rfl⟩
  have hal : a < 256 := by omega
  have hbl : b < 256 := by omega
  have hq := and255 hs
  rw [hb] at hq
  have hz := pop_size
  have hcnt : cnt s = (mem 8 a).length + (mem 8 b).length := by
    unfold cnt
    rw [mem_split, hb, show s / 256 = a by omega]
  have h1 := mem_len 8 a
  have h2 := mem_len 8 b
  rw [hcnt]
  have i1 : (a : Int) < 256 := by omega
  have i2 : (b : Int) < 256 := by omega
  have j1 : a < Lib.pop8tab.size := by rw [hz]; exact hal
  have j2 : b < Lib.pop8tab.size := by rw [hz]; exact hbl
  have p1 : ((Lib.pop8tab[a]'j1).toNat : Int) = ((mem 8 a).length : Int) := congrArg _ (pop_at a hal j1)
  have p2 : ((Lib.pop8tab[b]'j2).toNat : Int) = ((mem 8 b).length : Int) := congrArg _ (pop_at b hbl j2)
  go_enter Tryd.func79, Tryd.ntmps79
  go_wp2
  go_region
  all_goals
    go_wp2
    go_ret
    refine ⟨?_, rfl⟩
    show Ending.returned (Value.int .i64 (((mem 8 a).length : Int) + ((mem 8 b).length : Int))) = _
    rw [Int.natCast_add]

def z32 : List Int := [0, 1, 28, 2, 29, 14, 24, 3, 30, 22, 20, 15, 25, 17, 4, 8, 31, 27, 13, 23, 21, 19, 16, 7, 26, 12, 18, 6, 11, 5, 10, 9]
/-- The tables of Go's library that the walks read. -/
structure Tabs (w : World) : Prop where
  low : Lib.TabIs Tryd.prog w "math/bits.deBruijn32tab" .u8 z32
  pow : Lib.TabIs Tryd.prog w "internal/strconv.uint64pow10" .u64 Lib.pow10Tab
theorem tabIs_up {w w' : World} {name : String} {k : IntKind} {zs : List Int} (h : Lib.TabIs Tryd.prog w name k zs) (hu : Up w w') : Lib.TabIs Tryd.prog w' name k zs := by
  unfold Lib.TabIs World.var? at *
  cases hg : Tryd.prog.globalNamed name with
  | none => simp [hg] at h
  | some g =>
    simp only [hg, Option.bind_some] at h ⊢
    have hlt : g < w.heap.size := by
      rcases Nat.lt_or_ge g w.heap.size with h' | h'
      · exact h'
      · rw [Array.getElem?_eq_none h'] at h; simp at h
    rw [hu.block g hlt]
    exact h
theorem Tabs.up {w w' : World} (h : Tabs w) (hu : Up w w') : Tabs w' := ⟨tabIs_up h.low hu, tabIs_up h.pow hu⟩
theorem cell_lt {w : World} {p : Addr} {v : Value} (h : w.cell? p = some v) : p.block < w.heap.size := by
  rcases Nat.lt_or_ge p.block w.heap.size with h' | h'
  · exact h'
  · unfold World.cell? at h
    rw [Array.getElem?_eq_none h'] at h
    simp at h
theorem z32_at : ∀ t : Fin 16, (2 ^ t.val * 125613361 % 4294967296 / 134217728 < z32.length) ∧ z32.getD (2 ^ t.val * 125613361 % 4294967296 / 134217728) 0 = (t.val : Int) := by decide +kernel
theorem neg16 {s : Nat} (h0 : s ≠ 0) (hs : s < 65536) : IntKind.u16.wrap (-(s : Int)) = ((65536 - s : Nat) : Int) := by rw [wrap16]; omega
set_option maxRecDepth 100000 in
set_option maxHeartbeats 2000000 in
theorem zeros_any (s t : Nat) (w : World) (hT : Tabs w) (hs : s < 65536) (h0 : s ≠ 0) (hlow : s &&& (65536 - s) = 2 ^ t) (ht : t < 16) :
    Calls Tryd.prog 85 #[.int .u16 (s : Int)] w fun e w' => e = .returned (.int .i64 (t : Int)) ∧ w' = w := by
  have n0 : ((s : Int) == 0) = false := by rw [beq_eq_false_iff_ne]; omega
  have hneg := neg16 h0 hs
  obtain ⟨q, hq⟩ : ∃ q : Nat, 65536 - s = q := ⟨_, rfl⟩
  rw [hq] at hneg hlow
  have hand := and16 (b := q) hs
  obtain ⟨p, hp⟩ : ∃ p : Nat, 2 ^ t = p := ⟨_, rfl⟩
  obtain ⟨k, hk⟩ : ∃ k : Nat, p * 125613361 % 4294967296 / 134217728 = k := ⟨_, rfl⟩
  have htab := z32_at ⟨t, ht⟩
  simp only [hp, hk] at htab
  have hp16 : p < 65536 := by rw [← hp]; exact (show 2 ^ t < 2 ^ 16 from Nat.pow_lt_pow_right (by omega) ht)
  rw [hlow, hp] at hand
  have hcell := hT.low.cell (g := 0) (by kernel_rfl) k htab.1
  rw [htab.2] at hcell
  have e1 : ((p : Int) % 4294967296) = (p : Int) := by omega
  have e2 : ((p : Int) * 125613361 % 4294967296 / 134217728) = (k : Int) := by rw [← hk]; rfl
  have hk32 : k < 32 := by rw [← hk]; omega
  clear hlow hp hk htab hq
  go_enter Tryd.func85, Tryd.ntmps85
  go_wp2
  go_ret
  exact ⟨rfl, rfl⟩

/-- What a function returns that leaves all that was there as it was. -/
def RetV (w : World) (v : Value) (e : Ending) (w' : World) : Prop := e = .returned v ∧ Up w w'
set_option maxRecDepth 100000 in
set_option maxHeartbeats 2000000 in
theorem countX_any (s : Nat) (w : World) (hs : s < 65536) : Calls Tryd.prog 64 #[.int .u16 (s : Int)] w fun e w' => e = .returned (.int .i64 (cnt s : Int)) ∧ w' = w.drew := by
  go_enter Tryd.func64, Tryd.ntmps64
  go_wp2_with fail
  refine (ones_any s w hs).mono ?_
  rintro e w' ⟨rfl, rfl⟩
  go_wp2
  go_ret
  exact ⟨rfl, rfl⟩
theorem count_any (s : Nat) (w : World) (hs : s < 65536) : Calls Tryd.prog 64 #[.int .u16 (s : Int)] w (RetV w (.int .i64 (cnt s : Int))) :=
  (countX_any s w hs).mono fun _ _ ⟨he, hw⟩ => ⟨he, by rw [hw]; exact (Up.refl w).drew⟩
set_option maxRecDepth 100000 in
set_option maxHeartbeats 2000000 in
theorem members_any (s : Nat) (w : World) (hT : Tabs w) (hs : s < 65536) : Calls Tryd.prog 73 #[.int .u16 (s : Int)] w fun e w' => ∃ v, e = .returned v ∧ w'.ownsRow w.heap.size 3 1 v (cnt s) (ns (mem 16 s)) ∧ Up w w' := by
  obtain ⟨L, HL⟩ : ∃ L, Hid (L = mem 16 s) := ⟨_, rfl⟩
  have HN : Hid (cnt s = L.length) := by show _ = _; rw [HL.out]; rfl
  rw [← HL.out, HN.out]
  go_enter Tryd.func73, Tryd.ntmps73
  go_wp2
  go_loopw [0, 3] (fun v0 v3 wr => ∃ (r : Nat) (ls : List Nat), v0 = .int .u16 (r : Int) ∧ r < 65536 ∧ wr.ownsRow w.heap.size 3 1 v3 ls.length (ns ls) ∧ Hid (L = ls ++ mem 16 r) ∧ Up w wr) (fun v0 _ _ => (intOf v0).toNat)
  case atStart => exact ⟨s, [], rfl, hs, World.ownsRow_nil _ _ _ _, HL.out, Up.refl _⟩
  case round =>
    obtain ⟨r, ls, rfl, hr, hown, HX, hup⟩ := hrel
    have hsz := hup.size
    by_cases h0 : r = 0
    · subst h0
      have HE : Hid (L = ls) := by show L = ls; rw [HX.out, mem_zero, List.append_nil]
      go_wp2
      go_ret
      exact ⟨_, rfl, by rw [HE.out]; exact hown, hup⟩
    · have n0 : ((r : Int) != 0) = true := by rw [bne_iff_ne]; omega
      obtain ⟨t, ht, hm, hr2, hlow⟩ := mem_bot (b := r) hr h0
      have hls : ls.length + 1 + (mem 16 (r &&& (r - 1))).length ≤ 16 := by
        have h1 : L.length ≤ 16 := by rw [HL.out]; exact mem_len 16 s
        rw [HX.out, hm] at h1
        simp at h1
        omega
      obtain ⟨n, hn⟩ : ∃ n, ls.length = n := ⟨_, rfl⟩
      rw [hn] at hls hown
      have hz := zeros_any r t wr (hT.up hup) hr h0 hlow ht
      have HX2 : Hid (L = (ls ++ [t]) ++ mem 16 (r &&& (r - 1))) := by show L = _; rw [HX.out, hm, List.append_assoc]; rfl
      have e1 : (r : Int) - 1 = ((r - 1 : Nat) : Int) := by omega
      have hand := and16 (b := r - 1) hr
      have hle : r &&& (r - 1) ≤ r - 1 := Nat.and_le_right
      obtain ⟨r1, hr1⟩ : ∃ r1, r - 1 = r1 := ⟨_, rfl⟩
      rw [hr1] at hand e1 hle HX2 hr2
      obtain ⟨r2, hr2e⟩ : ∃ r2, r &&& r1 = r2 := ⟨_, rfl⟩
      rw [hr2e] at hand hle HX2 hr2
      clear hm hlow hr2e HX
      go_wp2_with fail
      refine hz.mono ?_
      rintro e w1 ⟨rfl, rfl⟩
      go_wp2_with (at_builtin; refine wp_appV rfl _ _ 81 3 rfl w.heap.size (.int .i64 0) 8 Tryd.underlying81 Tryd.info3 rfl (by decide) _ n _ rfl (hown.alloc _) (some ⟨w1.heap.size, 0, none⟩) 1 1 (ns [t]) rfl rfl (is_one _) (vals_one _ _ _) (by omega) (by simp; omega) ?_; intro v1 w2 hown1 hgrow1)
      go_roundw
      case rel => exact ⟨r2, ls ++ [t], rfl, hr2, by rw [ns_append, List.length_append, hn]; exact hown1, HX2.out, up_append hup hown hgrow1⟩
      case measure => simp [intOf]; omega
end Go.Proofs.YtfdlmgjjpcdkpaaDoor
