/- Walks: what appends a varint, and Put of both. -/
import Derived.Test.YtcgoogdjgocjbaaStr
namespace Go.Proofs.Ytcgoogdjgocjbaa
open Go.RowKit

theorem ret_int {k : IntKind} {a b : Int} (h : a = b) : Ending.returned (.int k a) = .returned (.int k b) := by rw [h]
/-- What appends to a row returns: the longer row; nothing below the base has changed. -/
def RetApp (w : World) (base : Nat) (l : List Nat) (e : Ending) (w' : World) : Prop := ∃ v n, e = .returned v ∧ Own w' base v n l ∧ Below base w w'
theorem Own.grownB {w w' w0 : World} {base n : Nat} {v : Value} {l : List Nat} (hown : Own w base v n l) (hup : Below base w0 w) (hg : w.grownBy w' v.ownBlock) (hb : base ≤ w.heap.size) : Below base w0 w' :=
  hup.grown hg hb (fun k hk => (hown.lt k hk).1)
theorem Own.allo {w : World} {base n : Nat} {v : Value} {l : List Nat} (hown : Own w base v n l) (o : Obj) : Own (w.alloc o) base v n l := World.ownsRow.alloc hown o

theorem lim_one (w : World) (x : Nat) (z : Int) (hz : z = (x : Int)) : Lim (w.alloc (.cells #[.int .u8 z] 5)) (some ⟨w.heap.size, 0, none⟩) [x] := by
  subst hz
  exact Or.inr ⟨_, rfl, by simp, fun j u hj => by match j, hj with | 0, hj => (simp at hj; subst hj; exact cell_new _ _ _)⟩

set_option maxRecDepth 1000000 in
set_option maxHeartbeats 1000000 in
theorem av_any (base : Nat) (v : Value) (m : Nat) (l : List Nat) (n : Nat) (w : World) (hown : Own w base v m l) (hm : m ≤ 900000) (hn : n < 18446744073709551616) (hbase : base ≤ w.heap.size) :
    Calls Try.prog 43 #[v, .int .u64 n] w (RetApp w base (l ++ vi n)) := by
  obtain ⟨i0, hi, hz0, hz1, hz2⟩ := info_parts Try.info5
  have hlen := vi_len10 hn
  go_enter Try.func43, Try.ntmps43
  go_wp2
  go_loopw [0, 1] (fun v' x wr => ∃ (k m' : Nat) (l' : List Nat), x = .int .u64 k ∧ k < 18446744073709551616 ∧ Own wr base v' m' l' ∧ Hid (l' ++ vi k = l ++ vi n) ∧ Below base w wr ∧ base ≤ wr.heap.size ∧ m' + (vi k).length = m + (vi n).length) (fun _ x _ => (intOf x).toNat)
  case atStart => exact ⟨n, m, l, rfl, hn, hown, rfl, Below.refl _ _, hbase, rfl⟩
  case round =>
    obtain ⟨k, m', l', rfl, hk, hown', HL, hup, hb', hlen'⟩ := hrel
    have hvp := vi_pos k
    by_cases hbig : 128 ≤ k
    · have hv : Hid (vi k = (128 + k % 128) :: vi (k / 128)) := vi_big hbig
      have hl2 : (vi k).length = (vi (k / 128)).length + 1 := by rw [hv.out]; simp
      go_wp2_with (at_builtin; refine wp_app rfl _ _ rfl base _ _ _ rfl (hown'.allo _) (some ⟨wr.heap.size, 0, none⟩) 1 1 [128 + k % 128] rfl rfl (lim_one _ _ _ (u8_or_top k)) (by omega) (by simp; omega) ?_; intro v1 w1 hown1 hgrow1)
      go_roundw
      case rel => exact ⟨k / 128, m' + 1, l' ++ [128 + k % 128], by go_num, by omega, hown1, by show l' ++ [128 + k % 128] ++ vi (k / 128) = _; rw [← HL.out, hv.out]; simp, (hown'.allo _).grownB (hup.alloc hb' _) hgrow1 (by simp; omega), by have := hgrow1.size; simp at this; omega, by omega⟩
      case measure => simp [intOf]; omega
    · have hv : Hid (vi k = [k]) := vi_small (by omega)
      go_wp2_with (at_builtin; refine wp_app rfl _ _ rfl base _ _ _ rfl (hown'.allo _) (some ⟨wr.heap.size, 0, none⟩) 1 1 [k] rfl rfl (lim_one _ _ _ (by omega)) (by omega) (by simp; omega) ?_; intro v1 w1 hown1 hgrow1)
      have hE : Hid (l' ++ [k] = l ++ vi n) := by show l' ++ [k] = l ++ vi n; rw [← HL.out, hv.out]
      go_ret
      exact ⟨v1, _, rfl, by rw [← hE.out]; exact hown1, (hown'.allo _).grownB (hup.alloc hb' _) hgrow1 (by simp; omega)⟩

theorem w8_app {l : List Nat} (h : ∀ x ∈ l, x < 256) (n : Nat) : ∀ x ∈ l ++ vi n, x < 256 := fun x hx => by
  rcases List.mem_append.1 hx with h1 | h1
  · exact h x h1
  · exact vi_byte n x h1
/-- A function that returns a string, and leaves what was there. -/
def RetStr (w : World) (s : ByteArray) (e : Ending) (w' : World) : Prop := e = .returned (.string s) ∧ Up w w'
set_option maxHeartbeats 400000 in
theorem put_any (n : Nat) (w : World) (hn : n < 18446744073709551616) : Calls Try.prog 13 #[.int .u64 n] w (RetStr w (bs (vi n))) := by
  go_enter Try.func13, Try.ntmps13
  go_wp2_with (go_at_call 43; refine (av_any w.heap.size _ 0 [] n _ (Own.nil _ _) (by omega) hn (Nat.le_refl _)).mono ?_; rintro e w1 ⟨v1, m1, rfl, hown1, hup1⟩; obtain ⟨A1, c1, rfl, _, hlim1, _⟩ := hown1.lim; have hcv := run_str w1 A1 m1 c1 _ hlim1 hown1.len (w8_app (fun x hx => by cases hx) n))
  go_ret
  exact ⟨rfl, hup1⟩
set_option maxRecDepth 1000000 in
set_option maxHeartbeats 1000000 in
theorem rput_any (n : Nat) (w : World) (hn : n < 18446744073709551616) : Calls Try.prog 15 #[.int .u64 n] w (RetStr w (bs (vi n))) := by
  have hlen := vi_len10 hn
  go_enter Try.func15, Try.ntmps15
  go_wp2
  go_loopw [0, 3] (fun x v' wr => ∃ (k m' : Nat) (l' : List Nat), x = .int .u64 k ∧ k < 18446744073709551616 ∧ Own wr w.heap.size v' m' l' ∧ Hid (l' ++ vi k = vi n) ∧ Up w wr ∧ m' + (vi k).length = (vi n).length) (fun x _ _ => (intOf x).toNat)
  case atStart => exact ⟨n, 0, [], rfl, hn, Own.nil _ _, rfl, Up.refl _, by simp⟩
  case round =>
    obtain ⟨k, m', l', rfl, hk, hown', HL, hup, hlen'⟩ := hrel
    have hvp := vi_pos k
    have hsz := hup.size
    by_cases hbig : 128 ≤ k
    · have hv : Hid (vi k = (128 + k % 128) :: vi (k / 128)) := vi_big hbig
      have hl2 : (vi k).length = (vi (k / 128)).length + 1 := by rw [hv.out]; simp
      go_wp2_with (at_builtin; refine wp_app rfl _ _ rfl w.heap.size _ _ _ rfl (hown'.allo _) (some ⟨wr.heap.size, 0, none⟩) 1 1 [128 + k % 128] rfl rfl (lim_one _ _ _ (by omega)) (by omega) (by simp; omega) ?_; intro v1 w1 hown1 hgrow1)
      go_roundw
      case rel => exact ⟨k / 128, m' + 1, l' ++ [128 + k % 128], by go_num, by omega, hown1, by show l' ++ [128 + k % 128] ++ vi (k / 128) = _; rw [← HL.out, hv.out]; simp, (hown'.allo _).grownB (hup.alloc _) hgrow1 (by simp; omega), by omega⟩
      case measure => simp [intOf]; omega
    · have hv : Hid (vi k = [k]) := vi_small (by omega)
      go_wp2_with (at_builtin; refine wp_app rfl _ _ rfl w.heap.size _ _ _ rfl (hown'.allo _) (some ⟨wr.heap.size, 0, none⟩) 1 1 [k] rfl rfl (lim_one _ _ _ (by omega)) (by omega) (by simp; omega) ?_; intro v1 w1 hown1 hgrow1; obtain ⟨A1, c1, rfl, _, hlim1, _⟩ := hown1.lim; have hcv := run_str w1 A1 _ c1 _ hlim1 hown1.len (by rw [show l' ++ [k] = vi n by rw [← HL.out, hv.out]]; exact vi_byte n))
      have hE : Hid (l' ++ [k] = vi n) := by show l' ++ [k] = vi n; rw [← HL.out, hv.out]
      go_ret
      exact ⟨by first | rfl | (rw [hE.out]; rfl), (hown'.allo _).grownB (hup.alloc _) hgrow1 (by simp; omega)⟩
end Go.Proofs.Ytcgoogdjgocjbaa
