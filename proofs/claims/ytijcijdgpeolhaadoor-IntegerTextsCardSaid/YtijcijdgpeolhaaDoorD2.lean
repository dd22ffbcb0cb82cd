/- The program's plus and minus. -/
import Derived.Test.YtijcijdgpeolhaaDoorD1
import Derived.Test.YtijcijdgpeolhaaDoorMath5
namespace Go.Proofs.YtijcijdgpeolhaaDoor
open Go.RowKit

theorem trim_lim' (A : Option Addr) (c : Nat) (o : List Nat) (w : World) (h : Lim w A o) (n r : Nat) (hn : o.length = n) (hd : Dig o) (hv : val o = r) (hl : n ≤ 1000000) (hc : n ≤ c) :
    Calls Tryd.prog 72 #[.slice A n c] w fun e w' => (∃ n', e = .returned (.slice A n' c) ∧ Hid (n' = (lim r).length) ∧ Lim w' A (lim r) ∧ n' ≤ c) ∧ w = w' :=
  (trim_any A c o w h n hn.symm hl hc).mono fun e w' ⟨he, hw⟩ => by
    subst he
    subst hw
    subst hn
    subst hv
    exact ⟨⟨_, rfl, keep_len hd, by rw [← trim_lim hd]; exact h.take _, Nat.le_trans (keep_le _ _) hc⟩, rfl⟩
/-- How an owned row reads. -/
theorem Own.lim' {w : World} {base g n c : Nat} {l : List Nat} (h : Own w base (.slice (some ⟨g, 0, none⟩) n c) n l) : Lim w (some ⟨g, 0, none⟩) l ∧ base ≤ g := by
  obtain ⟨A, c', e, _, hl, hn⟩ := h.lim
  cases e
  exact ⟨hl, hn _ rfl⟩

end Go.Proofs.YtijcijdgpeolhaaDoor
