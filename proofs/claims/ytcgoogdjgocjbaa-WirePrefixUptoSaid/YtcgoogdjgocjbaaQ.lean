/- What is short, and what the bound of the second form gives. -/
import Derived.Test.YtcgoogdjgocjbaaL
namespace Go.Proofs.Ytcgoogdjgocjbaa
open Go.RowKit

open Go.ChangeShapes Go.WideShapes Go.ChangeAt Go.Joins Go.Deep
/-- The bytes of some strings. -/
def sz : List ByteArray → Nat
  | [] => 0
  | s :: l => s.size + sz l
theorem sz_append (l m : List ByteArray) : sz (l ++ m) = sz l + sz m := by
  induction l with
  | nil => simp [sz]
  | cons s l ih => simp only [List.cons_append, sz, ih]; omega
theorem sz_mem {l : List ByteArray} {s : ByteArray} (h : s ∈ l) : s.size ≤ sz l := by
  induction l with
  | nil => cases h
  | cons x l ih =>
    simp only [sz]
    rcases List.mem_cons.1 h with rfl | h
    · omega
    · have := ih h; omega
theorem sz_take (l : List ByteArray) (k : Nat) : sz (l.take k) ≤ sz l := by
  have : sz l = sz (l.take k) + sz (l.drop k) := by rw [← sz_append, List.take_append_drop]
  omega
theorem sz_step (l : List ByteArray) (k : Nat) (h : k < l.length) : sz (l.take (k + 1)) = sz (l.take k) + (l.getD k ⟨#[]⟩).size := by
  have h1 : l.take (k + 1) = l.take k ++ [l.getD k ⟨#[]⟩] := by rw [List.take_add_one, List.getElem?_eq_getElem h]; simp [List.getD, h]
  rw [h1, sz_append]; simp [sz]
theorem bulk_strs {H : Type} (l : List ByteArray) : Rows.uptoBulkAll (strs l : List (DataW H)) = l.length + sz l := by
  induction l with
  | nil => simp [strs, Rows.uptoBulkAll, sz]
  | cons s l ih =>
    have h1 : s.data.toList.length = s.size := Array.length_toList
    simp only [strs, List.map_cons, Rows.uptoBulkAll, Rows.uptoBulk, sz, List.length_cons] at ih ⊢
    rw [ih, h1]; omega
theorem one_le {H : Type} (d : DataW H) : 1 ≤ Rows.uptoBulk d := by
  cases d with
  | lit l => cases l <;> simp [Rows.uptoBulk]
  | nil => simp [Rows.uptoBulk]
  | ptr d => simp [Rows.uptoBulk]
  | slice elems spare => simp [Rows.uptoBulk]
  | agg parts => simp [Rows.uptoBulk]
  | iface t d => simp [Rows.uptoBulk]
  | map entries => simp [Rows.uptoBulk]
  | held h => simp [Rows.uptoBulk]
theorem bound {H : Type} {l : List (DataW H)} (hk : Rows.uptoSmall H l = true) : Rows.uptoBulkAll l ≤ 1048576 := of_decide_eq_true hk
theorem bulk_list {H : Type} {enc : TypeId × Value → H} {w : World} {held : Bool} {base : Nat} {v : Value} {d : DataW H} {p : List MemPlace} (hv : Value.okWide Try.prog w .any base 30 v) (h : DataW.Trod enc Try.prog w 0 (fun _ => true) held 30 v d p) (hb : Rows.uptoBulk d ≤ 1048576) : ∃ l, StrsIn w v l ∧ l.length + sz l ≤ 1048576 := by
  obtain ⟨a0, n0, c0, rfl⟩ := okWide_slice Try.underlying30 hv
  obtain ⟨f, h⟩ := h
  rcases open_strings Try.underlying30 Try.underlying9 (by kernel_rfl) h with ⟨hcs, _⟩ | ⟨a, len, cap, zs, hcs, _, hl, hm, hz, hx, hcell, hwz⟩
  · simp [Value.cells] at hcs
    obtain ⟨rfl, rfl, rfl⟩ := hcs
    exact ⟨[], ⟨none, 0, 0, rfl, Or.inl rfl, (fun _ h => by cases h), rfl, Nat.le_refl _, by omega, fun _ => ⟨rfl, rfl⟩⟩, by simp [sz]⟩
  · simp [Value.cells] at hcs
    obtain ⟨rfl, rfl, rfl⟩ := hcs
    unfold maxLen at hm
    rw [if_pos rfl] at hz
    have hd : d = .slice (strs (zs.take n0)) (strs (zs.drop n0)) := congrArg Prod.fst hx
    have hbb : (zs.take n0).length + sz (zs.take n0) ≤ 1048576 := by
      rw [hd] at hb
      simp only [Rows.uptoBulk] at hb
      rw [bulk_strs] at hb
      omega
    refine ⟨zs.take n0, ⟨some a, n0, c0, rfl, ?_, ?_, by rw [List.length_take]; omega, hl, by omega, fun h => by cases h⟩, hbb⟩
    · by_cases h0 : n0 = 0
      · left; subst h0; rfl
      · refine .inr ⟨a, rfl, ?_, ?_⟩
        · have h1 := hcell 0 (by omega)
          have h2 := World.block_lt_of_cell? w _ h1
          rwa [addBlock] at h2
        · intro j x hx
          have hj : j < n0 := by
            have h1 := (List.getElem?_eq_some_iff.1 hx).1
            rw [ss_len, List.length_take] at h1
            omega
          rw [hcell j (by omega), ← hx, ss_get (by rw [List.length_take]; omega)]
          simp [List.getD, hj]
          rfl
    · intro z hz1
      exact id (hwz z (List.mem_of_mem_take hz1))
set_option maxRecDepth 1000000 in
set_option maxHeartbeats 4000000 in
theorem short_any (M : Nat) (A : Option Addr) (n c : Nat) (l : List ByteArray) (w : World) (hA : Vals w A (ss l)) (Hn : Hid (n = l.length)) (HM : Hid (M = n + sz l)) (hb : M ≤ 1048576) :
    Calls Try.prog 17 #[.slice A n c] w fun e w' => e = .returned (.bool (decide ((M : Int) ≤ 2000))) ∧ w = w' := by
  have hnM : n ≤ 1048576 := by have := HM.out; omega
  go_enter Try.func17, Try.ntmps17
  go_wp2
  go_loop [3, 4] (fun t i => ∃ k m : Nat, k ≤ n ∧ i = .int .i64 k ∧ t = .int .i64 m ∧ Hid (m = n + sz (l.take k))) (fun _ i => (n - (intOf i).toNat))
  case atStart => exact ⟨0, n, by omega, rfl, rfl, by show n = n + sz (l.take 0); simp [sz]⟩
  case round =>
    obtain ⟨k, m, hk, rfl, rfl, HK⟩ := hrel
    have hmb : m ≤ 1048576 := by have := HK.out; have := HM.out; have := sz_take l k; omega
    by_cases hlt : k < n
    · have hk1 : k < l.length := by have := Hn.out; omega
      obtain ⟨x, hx⟩ : ∃ x, x = l.getD k ⟨#[]⟩ := ⟨_, rfl⟩
      have hv1 := ss_get hk1
      rw [← hx] at hv1
      obtain ⟨ad, hAd, hbk, hcell⟩ := hA.at_ hv1
      subst hAd
      have HS : Hid (m + x.size = n + sz (l.take (k + 1))) := by show _ = _; rw [sz_step l k hk1, ← hx, HK.out]; omega
      have hxs : x.size ≤ 1048576 := by have := HS.out; have := HM.out; have := sz_take l (k + 1); omega
      clear hx hv1
      go_wp2
      go_round
      case rel => exact ⟨k + 1, m + x.size, by omega, by go_num, by go_num, HS⟩
      case measure => simp [intOf] <;> omega
    · obtain rfl : k = n := by omega
      obtain rfl : m = M := by rw [HK.out, HM.out, List.take_of_length_le (by rw [← Hn.out]; exact Nat.le_refl _)]
      go_wp2
      go_ret
      exact ⟨rfl, rfl⟩
end Go.Proofs.Ytcgoogdjgocjbaa
