/- Walks: the literal of a string, by both. -/
import Derived.Test.YtnhncakkbfjdjaaDoorWk
namespace Go.Proofs.YtnhncakkbfjdjaaDoor
open Go.RowKit

/-- A function that returns a string, and leaves what was there. -/
def RetStr (w : World) (s : ByteArray) (e : Ending) (w' : World) : Prop := e = .returned (.string s) ∧ Up w w'
theorem esc_lt (c : Nat) (h : c < 256) : ∀ x ∈ esc c, x < 256 := by
  intro x hx
  unfold esc hxc at hx
  split at hx
  · simp at hx; omega
  · split at hx
    · simp at hx; omega
    · split at hx
      · simp at hx; omega
      · simp only [List.mem_cons, List.mem_nil_iff, or_false] at hx
        rcases hx with rfl | rfl | rfl | rfl
        · omega
        · omega
        · split <;> omega
        · split <;> omega
theorem flat_lt (l : List Nat) (h : ∀ x ∈ l, x < 256) : ∀ x ∈ l.flatMap esc, x < 256 := by
  intro x hx
  rw [List.mem_flatMap] at hx
  obtain ⟨c, hc, hx⟩ := hx
  exact esc_lt c (h c hc) x hx
theorem quo_lt (l : List Nat) (h : ∀ x ∈ l, x < 256) : ∀ x ∈ quo l, x < 256 := by
  intro x hx
  unfold quo at hx
  rcases List.mem_cons.1 hx with rfl | hx
  · decide
  · rcases List.mem_append.1 hx with hx | hx
    · exact flat_lt l h x hx
    · simp at hx; omega
theorem take_snoc' (l : List Nat) (k : Nat) (h : k < l.length) : l.take (k + 1) = l.take k ++ [l.getD k 0] := by
  rw [List.take_succ_eq_append_getElem h, List.getD, List.getElem?_eq_getElem h]; rfl
def quoK (l : List Nat) (k : Nat) : List Nat := 34 :: (l.take k).flatMap esc
theorem quoK_succ (l : List Nat) (k : Nat) (h : k < l.length) : quoK l (k + 1) = quoK l k ++ esc (l.getD k 0) := by
  unfold quoK
  rw [take_snoc' l k h, List.flatMap_append]
  simp
theorem quoK_all (l : List Nat) : quoK l l.length ++ [34] = quo l := by unfold quoK quo; rw [List.take_length]; rfl
theorem quoK_len (l : List Nat) (k : Nat) (h : k ≤ l.length) : (quoK l k).length ≤ 1 + 4 * k := by
  unfold quoK
  have := flat_len (l.take k)
  rw [List.length_take] at this
  simp only [List.length_cons]
  omega
theorem Up.trans' {a b c : World} (h : Up a b) (k : Below a.heap.size b c) : Up a c := Below.trans h k
set_option maxRecDepth 100000 in
set_option maxHeartbeats 1000000 in
theorem quote_any (s : ByteArray) (w : World) (hs : s.size ≤ 100000) : Calls Tryd.prog 17 #[.string s] w (RetStr w (bs (quo (by_ s)))) := by
  go_enter Tryd.func17, Tryd.ntmps17
  go_wp2
  go_loopw [3, 8] (fun v i wr => ∃ (k m : Nat) (l : List Nat), i = .int .i64 k ∧ k ≤ s.size ∧ Own wr w.heap.size v m l ∧ Up w wr ∧ m ≤ 1 + 4 * k ∧ Hid (l = quoK (by_ s) k)) (fun _ i _ => s.size - (intOf i).toNat)
  case atStart => exact ⟨0, 1, [34], rfl, by omega, Own.lit w [34] _ (Nat.le_refl _) (by omega) rfl rfl, (Up.refl _).alloc _, by omega, rfl⟩
  case round =>
    obtain ⟨k, m, l, rfl, hk, hown, hup, hm, HL⟩ := hrel
    have hsz := hup.size
    by_cases hlt : k < s.size
    · obtain ⟨c, Hc⟩ : ∃ c, Hid (c = (by_ s).getD k 0) := ⟨_, rfl⟩
      have hat : ((s[k]'hlt).toNat : Int) = (c : Int) := by rw [u8_at s k hlt, Hc.out]
      have hc : c < 256 := by rw [Hc.out]; exact by_getD_lt s k
      have HS : Hid (quoK (by_ s) (k + 1) = l ++ esc c) := by show _ = _; rw [Hc.out, HL.out]; exact quoK_succ _ _ (by rw [by_len]; exact hlt)
      go_wp2_with fail
      refine (appChr_any w.heap.size _ m l c _ hown (by omega) hc (by omega)).mono ?_
      rintro e w2 ⟨v2, m2, rfl, hown2, hb2⟩
      have hm2 : m2 ≤ 1 + 4 * (k + 1) := by
        have h1 := hown2.len
        rw [← HS.out] at h1
        have h2 := quoK_len (by_ s) (k + 1) (by rw [by_len]; omega)
        omega
      go_wp2
      go_roundw
      case rel => exact ⟨k + 1, m2, _, by go_num, by omega, hown2, hup.trans' hb2, hm2, by show _ = _; rw [HS.out]⟩
      case measure => simp [intOf]; omega
    · have HE : Hid (l ++ [34] = quo (by_ s)) := by show _ = _; rw [HL.out, show k = (by_ s).length by rw [by_len]; omega]; exact quoK_all _
      go_wp2_with (at_builtin; refine wp_app rfl _ _ rfl w.heap.size _ _ _ rfl (hown.allo _) (some ⟨wr.heap.size, 0, none⟩) 1 1 [34] rfl rfl (lim_row _ _ _ rfl) (by omega) (by simp; omega) ?_; intro v1 w1 hown1 hgrow1; obtain ⟨A1, c1, rfl, _, hlim1, _⟩ := hown1.lim; have hcv := run_str w1 A1 _ c1 _ hlim1 hown1.len (by rw [HE.out]; exact quo_lt _ (by_lt s)))
      go_ret
      exact ⟨by rw [HE.out]; rfl, (hown.allo _).grownB (hup.alloc _) hgrow1 (by simp; omega)⟩
end Go.Proofs.YtnhncakkbfjdjaaDoor
