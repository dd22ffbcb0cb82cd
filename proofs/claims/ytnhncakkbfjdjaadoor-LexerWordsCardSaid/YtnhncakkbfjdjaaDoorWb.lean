/- Walks: what lies in the tables; how many bytes are of a kind. -/
import Derived.Test.YtnhncakkbfjdjaaDoorWa
import Derived.Test.YtnhncakkbfjdjaaDoorF
import Derived.Test.YtnhncakkbfjdjaaDoorShelf
import Derived.IntWalk
namespace Go.Proofs.YtnhncakkbfjdjaaDoor
open Go.RowKit

/-- The variables of Go's library that the program reads. -/
structure Tabs (w : World) : Prop where
  max : ∃ m : Int, w.cell? ⟨0, 0, none⟩ = some (.int .i64 m)
  pow : Lib.TabIs Tryd.prog w "internal/strconv.uint64pow10" .u64 Lib.pow10Tab
  err : ∃ tp p, w.cell? ⟨5, 0, none⟩ = some (.iface tp p)
theorem cell_lt {w : World} {p : Addr} {v : Value} (h : w.cell? p = some v) : p.block < w.heap.size := by
  rcases Nat.lt_or_ge p.block w.heap.size with h' | h'
  · exact h'
  · unfold World.cell? at h
    rw [Array.getElem?_eq_none h'] at h
    simp at h
theorem Tabs.up {w w' : World} (h : Tabs w) (hu : Up w w') : Tabs w' := by
  refine ⟨?_, ?_, ?_⟩
  · obtain ⟨m, hm⟩ := h.max
    exact ⟨m, (hu.cell (cell_lt hm)).trans hm⟩
  · have h := h.pow
    unfold Lib.TabIs World.var? at *
    cases hg : Tryd.prog.globalNamed "internal/strconv.uint64pow10" with
    | none => simp [hg] at h
    | some g =>
      simp only [hg, Option.bind_some] at h ⊢
      have hlt : g < w.heap.size := by
        rcases Nat.lt_or_ge g w.heap.size with h' | h'
        · exact h'
        · rw [Array.getElem?_eq_none h'] at h; simp at h
      rw [hu.block g hlt]
      exact h
  · obtain ⟨a, b, hm⟩ := h.err
    exact ⟨a, b, (hu.cell (cell_lt hm)).trans hm⟩
theorem bcell {W W1 : World} (hb : Up W W1) : (∀ b o, b < W.heap.size → W1.cell? ⟨b, o, none⟩ = W.cell? ⟨b, o, none⟩) ∧ (∀ b o, b < W.heap.size → W1.frozen? ⟨b, o, none⟩ = W.frozen? ⟨b, o, none⟩) :=
  ⟨fun b o h => hb.cell (p := ⟨b, o, none⟩) h, fun b o h => hb.frozen (p := ⟨b, o, none⟩) h⟩
theorem up_alloc_size {w w2 : World} {o : Obj} (h : Up (w.alloc o) w2) : w.heap.size < w2.heap.size := by have := h.size; simp at this; omega
theorem up_alloc_up {w w2 : World} {o : Obj} (h : Up (w.alloc o) w2) : Up w w2 := ((Up.refl w).alloc o).trans h
theorem up_set5 {w w2 : World} {g : Nat} (h : Up w w2) (hg : w.heap.size ≤ g) (a b c d e : Value) : Up w (((((w2.setCell ⟨g, 0, none⟩ a).setCell ⟨g, 1, none⟩ b).setCell ⟨g, 2, none⟩ c).setCell ⟨g, 3, none⟩ d).setCell ⟨g, 4, none⟩ e) :=
  ((((h.setCell hg a).setCell hg b).setCell hg c).setCell hg d).setCell hg e
/-- What appends to a row returns: the longer row; nothing below the base has changed. -/
theorem Own.grownB {w w' w0 : World} {base n : Nat} {v : Value} {l : List Nat} (hown : Own w base v n l) (hup : Below base w0 w) (hg : w.grownBy w' v.ownBlock) (hb : base ≤ w.heap.size) : Below base w0 w' :=
  hup.grown hg hb (fun k hk => (hown.lt k hk).1)
theorem Own.allo {w : World} {base n : Nat} {v : Value} {l : List Nat} (hown : Own w base v n l) (o : Obj) : Own (w.alloc o) base v n l := World.ownsRow.alloc hown o
theorem lim_one (w : World) (x : Nat) (z : Int) (hz : z = (x : Int)) : Lim (w.alloc (.cells #[.int .u8 z] 5)) (some ⟨w.heap.size, 0, none⟩) [x] := by
  subst hz
  exact Or.inr ⟨_, rfl, by simp, fun j u hj => by match j, hj with | 0, hj => (simp at hj; subst hj; exact cell_new _ _ _)⟩
theorem slice_from (s : ByteArray) (n : Nat) (h : n ≤ s.size) (W : World) : (Instr.slice 9 (.string s) (some (.int .i64 (n : Int))) none none).run Tryd.prog W = .ok (.string (bs ((by_ s).drop n))) W := by
  rw [run_slice_string_l W _ _ Tryd.underlying9 .i64 _ (by omega) (by omega)]
  simp only [Int.toNat_natCast]
  congr 2
  rw [← bs_by (s.extract n s.size), by_extract, List.take_of_length_le (by rw [List.length_drop, by_len]; omega)]
theorem drop_at (l : List Nat) (j : Nat) (h : j < l.length) : l.drop j = l.getD j 0 :: l.drop (j + 1) := by
  rw [List.drop_eq_getElem_cons h, List.getD, List.getElem?_eq_getElem h]; rfl
theorem by_bs_drop (s : ByteArray) (j : Nat) : by_ (bs ((by_ s).drop j)) = (by_ s).drop j := by_bs _ (fun x hx => by_lt s x (List.mem_of_mem_drop hx))
theorem u8_at (s : ByteArray) (k : Nat) (h : k < s.size) : ((s[k]'h).toNat : Int) = (((by_ s).getD k 0 : Nat) : Int) := by rw [by_get]
theorem by_getD_lt (s : ByteArray) (k : Nat) : (by_ s).getD k 0 < 256 := by
  rcases Nat.lt_or_ge k (by_ s).length with h | h
  · rw [List.getD, List.getElem?_eq_getElem h]
    exact by_lt s _ (List.getElem_mem h)
  · rw [List.getD, List.getElem?_eq_none h]
    decide
set_option maxRecDepth 100000 in
set_option maxHeartbeats 1000000 in
theorem cntLD (s : ByteArray) (w : World) (hs : s.size ≤ 100000) : Calls Tryd.prog 68 #[.string s, .func (.func 69) #[] #[]] w fun e w' => e = .returned (.int .i64 (cnt isLD (by_ s))) ∧ w = w' := by
  go_enter Tryd.func68, Tryd.ntmps68
  go_wp2
  go_loop [8] (fun i => ∃ k : Nat, k ≤ s.size ∧ i = .int .i64 k ∧ Hid (∀ j, j < k → isLD ((by_ s).getD j 0) = true)) (fun i => s.size - (intOf i).toNat)
  case atStart => exact ⟨0, by omega, rfl, fun j hj => by omega⟩
  case round =>
    obtain ⟨k, hk, rfl, H⟩ := hrel
    by_cases hlt : k < s.size
    · have hc := by_getD_lt s k
      have hat := u8_at s k hlt
      by_cases hp : isLD ((by_ s).getD k 0) = true
      · have HP := Lib.hid hp
        clear hp
        go_wp2_with fail
        refine (isLD_any _ _ hc).mono ?_
        rw [HP.out]
        rintro e w' ⟨rfl, rfl⟩
        go_wp2
        go_round
        case rel => exact ⟨k + 1, by omega, by go_num, fun j hj => by rcases Nat.lt_or_ge j k with h | h; exact H.out j h; rw [show j = k by omega]; exact HP.out⟩
        case measure => simp [intOf]; omega
      · have HP := Lib.hid (Bool.eq_false_iff.2 hp)
        clear hp
        go_wp2_with fail
        refine (isLD_any _ _ hc).mono ?_
        rw [HP.out]
        rintro e w' ⟨rfl, rfl⟩
        go_wp2
        have he : Hid (cnt isLD (by_ s) = k) := cnt_eq isLD (by_ s) k (by rw [by_len]; omega) H.out (fun _ => HP.out)
        go_ret
        exact ⟨by rw [he.out]; rfl, rfl⟩
    · have he : Hid (cnt isLD (by_ s) = s.size) := cnt_eq isLD (by_ s) s.size (by rw [by_len]; omega) (fun j hj => H.out j (by omega)) (fun h => by rw [by_len] at h; omega)
      go_wp2
      go_ret
      exact ⟨by rw [he.out]; rfl, rfl⟩
set_option maxRecDepth 100000 in
set_option maxHeartbeats 1000000 in
theorem cntD (s : ByteArray) (w : World) (hs : s.size ≤ 100000) : Calls Tryd.prog 68 #[.string s, .func (.func 51) #[] #[]] w fun e w' => e = .returned (.int .i64 (cnt isD (by_ s))) ∧ w = w' := by
  go_enter Tryd.func68, Tryd.ntmps68
  go_wp2
  go_loop [8] (fun i => ∃ k : Nat, k ≤ s.size ∧ i = .int .i64 k ∧ Hid (∀ j, j < k → isD ((by_ s).getD j 0) = true)) (fun i => s.size - (intOf i).toNat)
  case atStart => exact ⟨0, by omega, rfl, fun j hj => by omega⟩
  case round =>
    obtain ⟨k, hk, rfl, H⟩ := hrel
    by_cases hlt : k < s.size
    · have hc := by_getD_lt s k
      have hat := u8_at s k hlt
      by_cases hp : isD ((by_ s).getD k 0) = true
      · have HP := Lib.hid hp
        clear hp
        go_wp2_with fail
        refine (isD_any _ _ hc).mono ?_
        rw [HP.out]
        rintro e w' ⟨rfl, rfl⟩
        go_wp2
        go_round
        case rel => exact ⟨k + 1, by omega, by go_num, fun j hj => by rcases Nat.lt_or_ge j k with h | h; exact H.out j h; rw [show j = k by omega]; exact HP.out⟩
        case measure => simp [intOf]; omega
      · have HP := Lib.hid (Bool.eq_false_iff.2 hp)
        clear hp
        go_wp2_with fail
        refine (isD_any _ _ hc).mono ?_
        rw [HP.out]
        rintro e w' ⟨rfl, rfl⟩
        go_wp2
        have he : Hid (cnt isD (by_ s) = k) := cnt_eq isD (by_ s) k (by rw [by_len]; omega) H.out (fun _ => HP.out)
        go_ret
        exact ⟨by rw [he.out]; rfl, rfl⟩
    · have he : Hid (cnt isD (by_ s) = s.size) := cnt_eq isD (by_ s) s.size (by rw [by_len]; omega) (fun j hj => H.out j (by omega)) (fun h => by rw [by_len] at h; omega)
      go_wp2
      go_ret
      exact ⟨by rw [he.out]; rfl, rfl⟩
end Go.Proofs.YtnhncakkbfjdjaaDoor
