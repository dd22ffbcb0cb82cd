/- Texts of fractions. -/
import Derived.Test.YtldifgfpecicnaaGreatDoorR5
import Derived.Test.YtldifgfpecicnaaGreatDoorGU
import Derived.Lib.IndexLaws
namespace Go.Proofs.YtldifgfpecicnaaGreatDoor
open Go.RowKit

section
variable {w w' : World} {v : Value} {z : Int}
theorem formatQ (h : Iz w v z) (hp : Pow w) : Calls Tryz.prog 66 #[v] w (PSE w (bs (itxt z)) 0) := format_any 0 v z w h.1 h.2 hp
theorem rformatQ (h : Iz w v z) : Calls Tryz.prog 77 #[v] w (PS w (bs (itxt z))) := rformat_any 0 v z w h.1 h.2
end
theorem itxt_len {z : Int} (hz : z.natAbs < top300) : (itxt z).length ≤ 301 := by
  have h : dgt z.natAbs ≤ 300 := by
    by_cases h0 : z.natAbs = 0
    · rw [h0, dgt_zero]; omega
    · have hl : 0 < (lim z.natAbs).length := Nat.pos_of_ne_zero fun h => h0 (lim_len_zero.1 h)
      have h1 := (digs_lim z.natAbs).2 hz
      have h2 := (dgt_top (N := z.natAbs) rfl hl).1
      unfold digs at h1
      rw [if_neg (by omega)] at h1
      omega
  unfold itxt
  split
  · simp
  · split
    · rw [List.length_cons, txt_len]; omega
    · rw [txt_len]; omega
theorem itxt_ne {z : Int} : ∀ x ∈ itxt z, x ≠ 47 := by
  intro x hx
  unfold itxt at hx
  split at hx
  · simp at hx; omega
  · split at hx
    · rw [List.mem_cons] at hx
      rcases hx with hx | hx
      · omega
      · have := dg_mem hx; omega
    · have := dg_mem hx; omega
/-- The text of p / q. -/
def rtx (p q : Int) : ByteArray := if q = 1 then bs (itxt p) else bs (itxt p) ++ ⟨#[47]⟩ ++ bs (itxt q)
theorem itxt_size {z : Int} (hz : z.natAbs < top300) : (bs (itxt z)).size ≤ 301 := by rw [bs_size]; exact itxt_len hz
theorem size_47 : (⟨#[47]⟩ : ByteArray).size = 1 := rfl
end Go.Proofs.YtldifgfpecicnaaGreatDoor
