/- Clone; the program's minus. -/
import Derived.Test.YtijcijdgpeolhaaDoorD2
namespace Go.Proofs.YtijcijdgpeolhaaDoor
open Go.RowKit

/-- New limbs with the very numbers. -/
def RetRow (w : World) (l : List Nat) (e : Ending) (w' : World) : Prop := ∃ v n, e = .returned v ∧ Hid (n = l.length) ∧ Own w' w.heap.size v n l ∧ Up w w'

set_option maxHeartbeats 1000000 in
theorem clone_any (A : Option Addr) (c n : Nat) (l : List Nat) (w : World) (h : Lim w A l) (Hn : Hid (n = l.length)) (hn : n ≤ 100000) :
    Calls Tryd.prog 57 #[.slice A n c] w (RetRow w l) := by
  rcases A with _ | ad
  · have hl : l = [] := by rcases h with h | ⟨ad, h, _⟩ <;> first | exact h | cases h
    subst hl
    obtain rfl : n = 0 := Hn.out
    have heq := fun wx => Lib.run_eql_slice_nil (P := Tryd.prog) wx 22
    go_enter Tryd.func57, Tryd.ntmps57
    go_wp2
    go_ret
    exact ⟨_, 0, rfl, rfl, Own.nil _ _, Up.refl w⟩
  · have h1 := Own.lit w (base := w.heap.size) (n := 0) ([] : List Nat) #[] (Nat.le_refl _) (by omega) rfl rfl
    have hne := fun (wx : World) => Lib.run_eql_slice_nil (P := Tryd.prog) wx 22
    go_enter Tryd.func57, Tryd.ntmps57
    go_wp2_with (at_builtin; refine wp_app rfl _ _ rfl w.heap.size (.slice (some ⟨w.heap.size, 0, none⟩) 0 0) 0 [] rfl h1 (some ad) n c l rfl Hn.out.symm (h.up ((Up.refl w).alloc _)) (by omega) (by simp) ?_; intro v1 w1 hown1 hg1)
    simp only [List.nil_append, Nat.zero_add] at hown1
    go_ret
    exact ⟨_, n, rfl, Hn, hown1, ((Up.refl w).alloc _).grown hg1 (fun k hk => by cases hk; exact Nat.le_refl _)⟩

end Go.Proofs.YtijcijdgpeolhaaDoor
