/- Walks: a new hash, what finish returns, the digits of a sum. -/
import Derived.Test.YtdnhecgjfanakaaDoorP
namespace Go.Proofs.YtdnhecgjfanakaaDoor
open Go.RowKit

theorem hash_zero (w : World) (c : Array Value) (hc : c = (hcs startSt (List.replicate 64 0) 0).toArray) : HashAt (w.alloc (.cells c 43)) w.heap.size [] := by
  subst hc
  exact ⟨List.replicate 64 0, by simp, fun x hx => by rw [(List.mem_replicate.1 hx).2]; decide, rfl, Bk.new _ _ _⟩
theorem zero_hash : ∀ w, (zeroValue 43).run Tryd.prog w = .ok (.agg #[.int .u32 0, .int .u32 0, .int .u32 0, .int .u32 0, .int .u32 0, .int .u32 0, .int .u32 0, .int .u32 0, .int .u8 0, .int .u8 0, .int .u8 0, .int .u8 0, .int .u8 0, .int .u8 0, .int .u8 0, .int .u8 0, .int .u8 0, .int .u8 0, .int .u8 0, .int .u8 0, .int .u8 0, .int .u8 0, .int .u8 0, .int .u8 0, .int .u8 0, .int .u8 0, .int .u8 0, .int .u8 0, .int .u8 0, .int .u8 0, .int .u8 0, .int .u8 0, .int .u8 0, .int .u8 0, .int .u8 0, .int .u8 0, .int .u8 0, .int .u8 0, .int .u8 0, .int .u8 0, .int .u8 0, .int .u8 0, .int .u8 0, .int .u8 0, .int .u8 0, .int .u8 0, .int .u8 0, .int .u8 0, .int .u8 0, .int .u8 0, .int .u8 0, .int .u8 0, .int .u8 0, .int .u8 0, .int .u8 0, .int .u8 0, .int .u8 0, .int .u8 0, .int .u8 0, .int .u8 0, .int .u8 0, .int .u8 0, .int .u8 0, .int .u8 0, .int .u8 0, .int .u8 0, .int .u8 0, .int .u8 0, .int .u8 0, .int .u8 0, .int .u8 0, .int .u8 0, .int .u64 0]) w := fun _ => by kernel_rfl
/-- A new hash. -/
def RetNew (w : World) (e : Ending) (w' : World) : Prop := e = .returned (.pointer (some ⟨w.heap.size, 0, none⟩)) ∧ HashAt w' w.heap.size [] ∧ Up w w' ∧ w'.heap.size = w.heap.size + 1
set_option maxRecDepth 1000000 in
set_option maxHeartbeats 4000000 in
theorem new_any (w : World) (hT : Tabs w) : Calls Tryd.prog 8 #[] w (RetNew w) := by
  have c0 : w.cell? ⟨0, 0, none⟩ = some (.int .u32 (startSt.a : Nat)) := hT.root 0 (by decide)
  have c1 : w.cell? ⟨0, 1, none⟩ = some (.int .u32 (startSt.b : Nat)) := hT.root 1 (by decide)
  have c2 : w.cell? ⟨0, 2, none⟩ = some (.int .u32 (startSt.c : Nat)) := hT.root 2 (by decide)
  have c3 : w.cell? ⟨0, 3, none⟩ = some (.int .u32 (startSt.d : Nat)) := hT.root 3 (by decide)
  have c4 : w.cell? ⟨0, 4, none⟩ = some (.int .u32 (startSt.e : Nat)) := hT.root 4 (by decide)
  have c5 : w.cell? ⟨0, 5, none⟩ = some (.int .u32 (startSt.f : Nat)) := hT.root 5 (by decide)
  have c6 : w.cell? ⟨0, 6, none⟩ = some (.int .u32 (startSt.g : Nat)) := hT.root 6 (by decide)
  have c7 : w.cell? ⟨0, 7, none⟩ = some (.int .u32 (startSt.h : Nat)) := hT.root 7 (by decide)
  go_enter Tryd.func8, Tryd.ntmps8
  have hz := zero_hash
  go_wp2
  trace_state
  go_ret
  exact ⟨rfl, hash_zero w _ rfl, (Up.refl w).alloc _, by simp⟩
end Go.Proofs.YtdnhecgjfanakaaDoor
