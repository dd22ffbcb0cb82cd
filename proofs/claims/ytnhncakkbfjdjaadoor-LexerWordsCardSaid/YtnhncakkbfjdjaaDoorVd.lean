/- What the laws' awake returns. -/
import Derived.Test.YtnhncakkbfjdjaaDoorVc
namespace Go.Proofs.YtnhncakkbfjdjaaDoor
open Go.RowKit

def L1 : List (Tk × Nat) := [(⟨1, [97, 49], 0, []⟩, 1), (⟨4, [61], 0, []⟩, 1), (⟨2, [], 2, []⟩, 1), (⟨4, [40], 0, []⟩, 1), (⟨1, [98], 0, []⟩, 1), (⟨4, [41], 0, []⟩, 1)]
def L3 : List (Tk × Nat) := [(⟨2, [], 7, []⟩, 1), (⟨1, [97], 0, []⟩, 1)]
theorem ex1 : toks (by_ ⟨#[97, 49, 61, 50, 40, 98, 41, 32, 47, 47, 32, 99]⟩) 1 = .inr L1 := by kernel_rfl
theorem ex2 : toks (by_ ⟨#[120, 10, 48, 48, 55]⟩) 1 = .inl 2 := by kernel_rfl
theorem ex3 : toks (by_ ⟨#[55, 97]⟩) 1 = .inr L3 := by kernel_rfl
theorem ex4 : unq (by_ ⟨#[34, 92, 34, 92, 120, 48, 48, 34]⟩) = some [34, 0] := by kernel_rfl
theorem ex5 : bs (quo (by_ ⟨#[34, 0]⟩)) = ⟨#[34, 92, 34, 92, 120, 48, 48, 34]⟩ := by kernel_rfl
theorem ex6 : lns (by_ ⟨#[97, 10, 10, 98]⟩) = [[97], [], [98]] := by kernel_rfl
set_option maxRecDepth 100000 in
set_option maxHeartbeats 4000000 in
theorem awake_any (w : World) (hTab : Tabs w) : Calls Tryd.prog 11 #[] w (RetB w true) := by
  have HTab := hide hTab
  clear hTab
  go_enter Tryd.func11, Tryd.ntmps11
  go_wp2_with fail
  have h1 := tokens_any ⟨#[97, 49, 61, 50, 40, 98, 41, 32, 47, 47, 32, 99]⟩ w (by decide) HTab.out
  rw [ex1] at h1
  refine h1.mono ?_
  clear h1
  rintro e w1 ⟨v1, n1, rfl, hown1, hu1⟩
  obtain rfl : 6 = n1 := hown1.len
  obtain ⟨A1, c1, rfl, hc1, hT1⟩ := hown1.tks
  have HT1 := hide hT1
  have HC1 := hide hc1
  clear hown1 hT1 hc1
  go_wp2_with fail
  have h2 := tokens_any ⟨#[120, 10, 48, 48, 55]⟩ w1 (by decide) (HTab.out.up hu1)
  rw [ex2] at h2
  refine h2.mono ?_
  clear h2
  rintro e w2 ⟨rfl, hu2⟩
  go_wp2_with fail
  have h3 := tokens_any ⟨#[55, 97]⟩ w2 (by decide) ((HTab.out.up hu1).up hu2)
  rw [ex3] at h3
  refine h3.mono ?_
  clear h3
  rintro e w3 ⟨v3, n3, rfl, hown3, hu3⟩
  obtain rfl : 2 = n3 := hown3.len
  obtain ⟨A3, c3, rfl, hc3, _⟩ := hown3.tks
  clear hown3 hc3
  go_wp2_with fail
  have h4 := unquote_any ⟨#[34, 92, 34, 92, 120, 48, 48, 34]⟩ w3 (((HTab.out.up hu1).up hu2).up hu3) (by decide)
  rw [ex4] at h4
  unfold RetS at h4
  rw [show bs (Option.getD (some [34, 0]) []) = ⟨#[34, 0]⟩ from rfl] at h4
  refine h4.mono ?_
  clear h4
  rintro e w4 ⟨rfl, hu4⟩
  have hT4 := (HT1.out.up hu2).up (hu3.trans hu4)
  obtain ⟨g, hA, g0, g1, g2, g3, g4⟩ := hT4 0 _ rfl
  obtain ⟨g', hA', h0, h1, h2, h3, h4⟩ := hT4 2 _ rfl
  subst hA
  injection hA' with hA'
  injection hA' with hA'
  subst hA'
  clear hT4
  replace g0 : w4.cell? ⟨g, 0, none⟩ = some (.int .i64 1) := g0
  replace g1 : w4.cell? ⟨g, 1, none⟩ = some (.string ⟨#[97, 49]⟩) := g1
  replace g2 : w4.cell? ⟨g, 2, none⟩ = some (.int .i64 0) := g2
  replace g3 : w4.cell? ⟨g, 3, none⟩ = some (.string ⟨#[]⟩) := g3
  replace g4 : w4.cell? ⟨g, 4, none⟩ = some (.int .i64 1) := g4
  replace h0 : w4.cell? ⟨g, 10, none⟩ = some (.int .i64 2) := h0
  replace h1 : w4.cell? ⟨g, 11, none⟩ = some (.string ⟨#[]⟩) := h1
  replace h2 : w4.cell? ⟨g, 12, none⟩ = some (.int .i64 2) := h2
  replace h3 : w4.cell? ⟨g, 13, none⟩ = some (.string ⟨#[]⟩) := h3
  replace h4 : w4.cell? ⟨g, 14, none⟩ = some (.int .i64 1) := h4
  have hup4 := ((hu1.trans hu2).trans hu3).trans hu4
  go_wp2_with fail
  refine (quote_any ⟨#[34, 0]⟩ _ (by decide)).mono ?_
  rw [ex5]
  rintro e w5 ⟨rfl, hu5⟩
  go_wp2_with fail
  have h6 := lines_any ⟨#[97, 10, 10, 98]⟩ w5 (by decide) (HTab.out.up (hup4.trans hu5))
  rw [ex6] at h6
  refine h6.mono ?_
  clear h6
  rintro e w6 ⟨A6, c6, rfl, hc6, hv6, hu6⟩
  have HV6 := hide hv6
  have HC6 := hide hc6
  clear hv6 hc6
  go_wp2_with fail
  refine (strings_any _ _ 3 3 _ _ [[97], [], [98]] _ (HV6.out.up ((Up.refl _).alloc _)) (vals_new _ _ _) rfl rfl (by omega)).mono ?_
  rintro e w7 ⟨rfl, hu7⟩
  go_wp2
  go_ret
  exact ⟨rfl, ((hup4.trans hu5).trans hu6).trans (up_alloc_up hu7)⟩
end Go.Proofs.YtnhncakkbfjdjaaDoor
