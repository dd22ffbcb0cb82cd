/- The reference's division of limbs by bisection. -/
import Derived.Test.YtijcijdgpeolhaaDoorB2
import Derived.Test.YtijcijdgpeolhaaDoorBase3
import Derived.Test.YtijcijdgpeolhaaDoorMath4
namespace Go.Proofs.YtijcijdgpeolhaaDoor
open Go.RowKit

/-- Two new rows of limbs. -/
def RetLim2 (w : World) (q r : Nat) (e : Ending) (w' : World) : Prop :=
  ∃ A n c B m d, e = .returned (.tuple #[.slice A n c, .slice B m d]) ∧ Hid (n = (lim q).length) ∧ Hid (m = (lim r).length) ∧ Lim w' A (lim q) ∧ Lim w' B (lim r) ∧ n ≤ c ∧ m ≤ d ∧ NewB w.heap.size A ∧ NewB w.heap.size B ∧ Up w w'

theorem rtrim_lim (A : Option Addr) (c : Nat) (o : List Nat) (w : World) (h : Lim w A o) (n r : Nat) (hn : o.length = n) (hd : Dig o) (hv : val o = r) (hl : n ≤ 1000000) (hc : n ≤ c) :
    Calls Tryd.prog 39 #[.slice A n c] w fun e w' => (∃ n', e = .returned (.slice A n' c) ∧ Hid (n' = (lim r).length) ∧ Lim w' A (lim r) ∧ n' ≤ c) ∧ w = w' :=
  (rtrim_any A c o w h n hn.symm hl hc).mono fun e w' ⟨he, hw⟩ => by
    subst he
    subst hw
    subst hn
    subst hv
    exact ⟨⟨_, rfl, keep_len hd, by rw [← trim_lim hd]; exact h.take _, Nat.le_trans (keep_le _ _) hc⟩, rfl⟩

end Go.Proofs.YtijcijdgpeolhaaDoor
