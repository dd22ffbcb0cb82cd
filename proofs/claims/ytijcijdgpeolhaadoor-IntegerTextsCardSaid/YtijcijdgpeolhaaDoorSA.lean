import Derived.Test.YtijcijdgpeolhaaDoorBase4
import Derived.Laws.DeepStrings4
import Derived.Test.YtijcijdgpeolhaaDoorBase3
import Derived.Lib.ConvBytes
import Derived.Test.YtijcijdgpeolhaaDoorBase5
import Derived.Test.YtijcijdgpeolhaaDoorMath6
import Derived.Test.YtijcijdgpeolhaaDoorA3
import Derived.Test.YtijcijdgpeolhaaDoorG1
import Derived.Lib.ItoaNum
import Derived.Laws.Runes
import Derived.Test.YtijcijdgpeolhaaDoorV1
import Derived.Test.YtijcijdgpeolhaaDoorC1
/- Texts of integers: strings as bytes; isNatural; the sign ahead of a text. -/
namespace Go.Proofs.YtijcijdgpeolhaaDoor
open Go.RowKit

/-- The bytes of a string. -/
def by_ (s : ByteArray) : List Nat := s.data.toList.map UInt8.toNat
theorem by_len (s : ByteArray) : (by_ s).length = s.size := by unfold by_; rw [List.length_map, Array.length_toList]; rfl
theorem by_lt (s : ByteArray) : ∀ x ∈ by_ s, x < 256 := by
  intro x hx
  simp only [by_, List.mem_map] at hx
  obtain ⟨b, _, rfl⟩ := hx
  exact UInt8.toNat_lt b
theorem by_get (s : ByteArray) (k : Nat) (h : k < s.size) : (s[k]'h).toNat = (by_ s).getD k 0 := by
  have h2 : k < s.data.toList.length := by rw [Array.length_toList]; exact h
  have e : (s[k]'h) = s.data.toList[k]'h2 := rfl
  rw [e]
  unfold by_
  rw [List.getD, List.getElem?_map, List.getElem?_eq_getElem h2]
  rfl
theorem byte_lt (s : ByteArray) (k : Nat) : (by_ s).getD k 0 < 256 := by
  by_cases h : k < (by_ s).length
  · exact by_lt s _ (by rw [List.getD, List.getElem?_eq_getElem h]; exact List.getElem_mem h)
  · rw [List.getD, List.getElem?_eq_none (by omega)]; decide
theorem ix_str (s : ByteArray) (k b : Nat) (hk : k < s.size) (Hb : Hid (b = (by_ s).getD k 0)) (W : World) : (Instr.index 9 (.string s) (.int .i64 (k : Int))).run Tryd.prog W = .ok (.int .u8 (b : Int)) W := by
  rw [run_index_string W 9 s .i64 k Tryd.underlying9, dif_pos (by omega), Hb.out]
  simp only [Int.toNat_natCast]
  rw [by_get s k hk]
theorem str_empty {s : ByteArray} (h : s.size ≠ 0) : s.toList.isEmpty = false := by
  rw [ByteArray.toList_eq]
  obtain ⟨⟨l⟩⟩ := s
  cases l with
  | nil => exact absurd rfl h
  | cons a l => rfl
/-- The bytes are digits. -/
def digsB (l : List Nat) : Bool := l.all fun x => decide (48 ≤ x) && decide (x ≤ 57)
/-- The bytes are those of a positive number that is not too long. -/
def natB (l : List Nat) : Bool := decide (0 < l.length) && (decide (l.getD 0 0 ≠ 48) && (decide (l.length ≤ 300) && digsB l))
theorem digsB_take {l : List Nat} {k : Nat} (hk : k < l.length) : digsB (l.take (k + 1)) = (digsB (l.take k) && (decide (48 ≤ l.getD k 0) && decide (l.getD k 0 ≤ 57))) := by
  have h1 : l.take (k + 1) = l.take k ++ [l.getD k 0] := by rw [List.take_add_one, List.getElem?_eq_getElem hk]; simp [List.getD, hk]
  unfold digsB
  rw [h1, List.all_append]; simp
theorem digsB_bad {l : List Nat} {k : Nat} (hk : k < l.length) (h : ¬ (48 ≤ l.getD k 0 ∧ l.getD k 0 ≤ 57)) : digsB l = false := by
  cases e : digsB l with
  | false => rfl
  | true =>
    unfold digsB at e
    have h1 := List.all_eq_true.1 e (l.getD k 0) (by rw [List.getD, List.getElem?_eq_getElem hk]; exact List.getElem_mem hk)
    simp only [Bool.and_eq_true, decide_eq_true_eq] at h1
    exact absurd h1 h
set_option maxRecDepth 1000000 in
set_option maxHeartbeats 2000000 in
theorem natural_any (s : ByteArray) (w : World) (hs : s.size ≤ 1000000) : Calls Tryd.prog 28 #[.string s] w fun e w' => e = .returned (.bool (natB (by_ s))) ∧ w = w' := by
  have HB := hide (by_len s)
  by_cases hz : s.size = 0
  · obtain rfl : s = ⟨#[]⟩ := by
      obtain ⟨⟨l⟩⟩ := s
      cases l with
      | nil => rfl
      | cons a l => cases hz
    go_enter Tryd.func28, Tryd.ntmps28
    go_wp2
    go_ret
    exact ⟨rfl, rfl⟩
  · have hz' := str_empty hz
    obtain ⟨b0, hb0⟩ : ∃ b, Hid (b = (by_ s).getD 0 0) := ⟨_, rfl⟩
    have hi0 : ∀ W : World, (Instr.index 9 (.string s) (.int .i64 0)).run Tryd.prog W = .ok (.int .u8 (b0 : Int)) W := fun W => ix_str s 0 b0 (by omega) hb0 W
    have hlt0 : b0 < 256 := by rw [hb0.out]; exact byte_lt s 0
    by_cases h48 : b0 = 48
    · have HN : Hid (natB (by_ s) = false) := by
        show _ = _
        unfold natB
        rw [← hb0.out, h48]; simp
      have e48 : ((b0 : Int) == 48) = true := by rw [beq_iff_eq]; omega
      clear h48
      go_enter Tryd.func28, Tryd.ntmps28
      go_wp2
      go_ret
      exact ⟨by rw [HN.out] <;> rfl, rfl⟩
    · have e48 : ((b0 : Int) == 48) = false := by rw [beq_eq_false_iff_ne]; omega
      by_cases h300 : s.size ≤ 300
      · have HN : Hid (natB (by_ s) = digsB (by_ s)) := by
          show _ = _
          unfold natB
          rw [← hb0.out, HB.out, decide_eq_true (show 0 < s.size by omega), decide_eq_true (show b0 ≠ 48 from h48), decide_eq_true h300]; rfl
        clear h48
        go_enter Tryd.func28, Tryd.ntmps28
        go_wp2
        go_loop [18] (fun i => ∃ k : Nat, k ≤ s.size ∧ i = .int .i64 k ∧ Hid (digsB ((by_ s).take k) = true)) (fun i => s.size - (intOf i).toNat)
        case atStart => exact ⟨0, by omega, rfl, rfl⟩
        case round =>
          obtain ⟨k, hk, rfl, HD⟩ := hrel
          by_cases hgo : k < s.size
          · obtain ⟨b, Hb⟩ : ∃ b, Hid (b = (by_ s).getD k 0) := ⟨_, rfl⟩
            have hix : ∀ W : World, (Instr.index 9 (.string s) (.int .i64 (k : Int))).run Tryd.prog W = .ok (.int .u8 (b : Int)) W := fun W => ix_str s k b hgo Hb W
            have hb256 : b < 256 := by rw [Hb.out]; exact byte_lt s k
            by_cases hd : 48 ≤ b ∧ b ≤ 57
            · have HD2 : Hid (digsB ((by_ s).take (k + 1)) = true) := by
                show _ = _
                rw [digsB_take (by rw [HB.out]; exact hgo), HD.out, ← Hb.out, decide_eq_true hd.1, decide_eq_true hd.2]; rfl
              obtain ⟨h1, h2⟩ := hd
              go_wp2
              go_round
              case rel => exact ⟨k + 1, by omega, by go_num, HD2⟩
              case measure => simp [intOf] <;> omega
            · have HF : Hid (digsB (by_ s) = false) := digsB_bad (by rw [HB.out]; exact hgo) (by rw [← Hb.out]; exact hd)
              by_cases h1 : 48 ≤ b
              · have h2 : 57 < b := by omega
                clear hd
                go_wp2
                go_ret
                exact ⟨by rw [HN.out, HF.out] <;> rfl, rfl⟩
              · clear hd
                go_wp2
                go_ret
                exact ⟨by rw [HN.out, HF.out] <;> rfl, rfl⟩
          · obtain rfl : k = s.size := by omega
            have HT : Hid (digsB (by_ s) = true) := by
              have h := HD.out
              rw [List.take_of_length_le (by rw [HB.out]; exact Nat.le_refl _)] at h
              exact h
            go_wp2
            go_ret
            exact ⟨by rw [HN.out, HT.out] <;> rfl, rfl⟩
      · have HN : Hid (natB (by_ s) = false) := by
          show _ = _
          unfold natB
          rw [HB.out, decide_eq_false h300]; simp
        clear h48
        go_enter Tryd.func28, Tryd.ntmps28
        go_wp2
        go_ret
        exact ⟨by rw [HN.out] <;> rfl, rfl⟩
end Go.Proofs.YtijcijdgpeolhaaDoor
/- Texts of integers: the sign ahead of a text (CutPrefix at "-"). -/
namespace Go.Proofs.YtijcijdgpeolhaaDoor
open Go.RowKit

/-- The text begins with a minus sign. -/
def negB (s : ByteArray) : Bool := decide ((by_ s).getD 0 0 = 45)
theorem neg_eq (s : ByteArray) (h : 0 < s.size) : ((s.extract 0 1).toList == [45]) = negB s := by
  obtain ⟨⟨l⟩⟩ := s
  cases l with
  | nil => cases h
  | cons a l =>
    rw [ByteArray.toList_eq, ByteArray.extract_mk]
    unfold negB by_
    simp
    rw [Bool.eq_iff_iff]
    simp only [beq_iff_eq, decide_eq_true_eq]
    constructor
    · intro e; rw [e]; rfl
    · intro e; exact UInt8.toNat_inj.1 (by rw [e]; rfl)
set_option maxRecDepth 1000000 in
set_option maxHeartbeats 2000000 in
theorem hasp_any (s : ByteArray) (w : World) (hs : s.size ≤ 1000000) : Calls Tryd.prog 68 #[.string s, .string ⟨#[45]⟩] w fun e w' => e = .returned (.bool (negB s)) ∧ w = w' := by
  by_cases hz : s.size = 0
  · obtain rfl : s = ⟨#[]⟩ := by
      obtain ⟨⟨l⟩⟩ := s
      cases l with
      | nil => rfl
      | cons a l => cases hz
    go_enter Tryd.func68, Tryd.ntmps68
    go_wp2
    go_ret
    exact ⟨by kernel_rfl, rfl⟩
  · have hq := neg_eq s (by omega)
    have hsl : ∀ W : World, (Instr.slice 9 (.string s) none (some (.int .i64 1)) none).run Tryd.prog W = .ok (.string (s.extract 0 1)) W := fun W => by rw [run_slice_string_h W _ _ Tryd.underlying9 .i64 _ (by omega) (by omega)]; rfl
    have hsz : (⟨#[45]⟩ : ByteArray).size = 1 := rfl
    have hp : 1 ≤ s.size := by omega
    obtain ⟨B, hB⟩ : ∃ B, B = negB s := ⟨_, rfl⟩
    rw [← hB] at hq
    rw [← hB]
    clear hB
    go_enter Tryd.func68, Tryd.ntmps68
    go_wp2
    go_ret
    exact ⟨rfl, rfl⟩
/-- What is left behind the sign. -/
def cutS (s : ByteArray) : ByteArray := if negB s then s.extract 1 s.size else s
set_option maxRecDepth 1000000 in
set_option maxHeartbeats 2000000 in
theorem cutl_any (s : ByteArray) (w : World) (hs : s.size ≤ 1000000) : Calls Tryd.prog 51 #[.string s, .string ⟨#[45]⟩] w fun e w' => e = .returned (.tuple #[.string (cutS s), .bool (negB s)]) ∧ w = w' := by
  have hcall := fun w => hasp_any s w hs
  cases hn : negB s with
  | false =>
    have HC : Hid (cutS s = s) := by show cutS s = s; unfold cutS; rw [hn]; rfl
    rw [hn] at hcall
    go_enter Tryd.func51, Tryd.ntmps51
    go_wp2_with (go_at_call 68; refine (hcall _).mono ?_; rintro e w' ⟨rfl, rfl⟩)
    go_ret2
    exact ⟨by rw [HC.out] <;> rfl, rfl⟩
  | true =>
    have hpos : 1 ≤ s.size := by
      rcases Nat.eq_zero_or_pos s.size with h | h
      · exfalso
        obtain ⟨⟨l⟩⟩ := s
        cases l with
        | nil => cases hn
        | cons a l => cases h
      · exact h
    have HC : Hid (cutS s = s.extract 1 s.size) := by show cutS s = _; unfold cutS; rw [hn]; rfl
    rw [hn] at hcall
    have hsl : ∀ W : World, (Instr.slice 9 (.string s) (some (.int .i64 1)) none none).run Tryd.prog W = .ok (.string (s.extract 1 s.size)) W := fun W => by rw [run_slice_string_l W _ _ Tryd.underlying9 .i64 _ (by omega) (by omega)]; rfl
    go_enter Tryd.func51, Tryd.ntmps51
    go_wp2_with (go_at_call 68; refine (hcall _).mono ?_; rintro e w' ⟨rfl, rfl⟩)
    go_ret2
    exact ⟨by rw [HC.out] <;> rfl, rfl⟩
set_option maxHeartbeats 1000000 in
theorem cut_any (s : ByteArray) (w : World) (hs : s.size ≤ 1000000) : Calls Tryd.prog 27 #[.string s, .string ⟨#[45]⟩] w fun e w' => e = .returned (.tuple #[.string (cutS s), .bool (negB s)]) ∧ w = w' := by
  go_enter Tryd.func27, Tryd.ntmps27
  go_wp2_with (go_at_call 51; refine (cutl_any s _ hs).mono ?_; rintro e w' ⟨rfl, rfl⟩)
  go_ret2
  exact ⟨rfl, rfl⟩
end Go.Proofs.YtijcijdgpeolhaaDoor
/- Texts of integers: the value of digits, and blocks. -/
namespace Go.Proofs.YtijcijdgpeolhaaDoor
open Go.RowKit

/-- The number of some digits, behind a number. -/
def dvf (a : Nat) (l : List Nat) : Nat := l.foldl (fun a x => a * 10 + (x - 48)) a
theorem dvf_append (a : Nat) (l m : List Nat) : dvf a (l ++ m) = dvf (dvf a l) m := by unfold dvf; rw [List.foldl_append]
theorem dvf_lin : ∀ (l : List Nat) (a : Nat), dvf a l = a * 10 ^ l.length + dvf 0 l := by
  intro l
  induction l with
  | nil => intro a; simp [dvf]
  | cons x l ih =>
    intro a
    have h1 : dvf a (x :: l) = dvf (a * 10 + (x - 48)) l := rfl
    have h2 : dvf 0 (x :: l) = dvf (0 * 10 + (x - 48)) l := rfl
    rw [h1, h2, ih, ih (0 * 10 + (x - 48)), List.length_cons, Nat.pow_succ]
    rw [Nat.add_mul, Nat.add_mul, Nat.zero_mul, Nat.zero_add, Nat.mul_assoc, Nat.mul_comm 10, Nat.add_assoc]
theorem dvf_lt : ∀ (l : List Nat), digsB l = true → dvf 0 l < 10 ^ l.length := by
  intro l
  induction l with
  | nil => intro _; decide
  | cons x l ih =>
    intro h
    unfold digsB at h
    simp only [List.all_cons, Bool.and_eq_true, decide_eq_true_eq] at h
    have h2 := ih h.2
    have h1 : dvf 0 (x :: l) = dvf (0 * 10 + (x - 48)) l := rfl
    rw [h1, dvf_lin, List.length_cons, Nat.pow_succ, Nat.zero_mul, Nat.zero_add]
    have h3 : (x - 48) * 10 ^ l.length ≤ 9 * 10 ^ l.length := Nat.mul_le_mul_right _ (by omega)
    omega
theorem dvf_pos {l : List Nat} (h : digsB l = true) (h0 : l.getD 0 0 ≠ 48) (hl : 0 < l.length) : 0 < dvf 0 l := by
  cases l with
  | nil => cases hl
  | cons x l =>
    unfold digsB at h
    simp only [List.all_cons, Bool.and_eq_true, decide_eq_true_eq] at h
    simp at h0
    have h1 : dvf 0 (x :: l) = dvf (0 * 10 + (x - 48)) l := rfl
    rw [h1, dvf_lin]
    have h2 : 1 * 1 ≤ (0 * 10 + (x - 48)) * 10 ^ l.length := Nat.mul_le_mul (by omega) (Nat.pow_pos (by decide))
    omega
theorem digsB_sub {l m : List Nat} (h : digsB l = true) (hs : ∀ x ∈ m, x ∈ l) : digsB m = true := by
  unfold digsB at h ⊢
  exact List.all_eq_true.2 fun x hx => List.all_eq_true.1 h x (hs x hx)
theorem dvf_step {l : List Nat} {k : Nat} (hk : k < l.length) : dvf 0 (l.take (k + 1)) = dvf 0 (l.take k) * 10 + (l.getD k 0 - 48) := by
  have h1 : l.take (k + 1) = l.take k ++ [l.getD k 0] := by rw [List.take_add_one, List.getElem?_eq_getElem hk]; simp [List.getD, hk]
  rw [h1, dvf_append]; rfl
/-- One block: the digits from a to e. -/
theorem dvf_block (l : List Nat) (a e : Nat) (ha : a ≤ e) (he : e ≤ l.length) : dvf 0 (l.take e) = dvf 0 (l.take a) * 10 ^ (e - a) + dvf 0 ((l.take e).drop a) := by
  have h1 : l.take e = l.take a ++ (l.take e).drop a := by
    have := (List.take_append_drop a (l.take e)).symm
    rw [List.take_take, Nat.min_eq_left ha] at this
    exact this
  conv => lhs; rw [h1]
  rw [dvf_append, dvf_lin, List.length_drop, List.length_take, Nat.min_eq_left he]
theorem up_bytes (w : World) (e : TypeId) (s : ByteArray) : Up w (Lib.bytesWorld w e s) :=
  ⟨rfl, rfl, rfl, by rw [Lib.bytesWorld_size]; omega, fun k hk => Lib.bytesWorld_at_old w e s k hk⟩
theorem bytes_cell (w : World) (e : TypeId) (s : ByteArray) (j : Nat) (hj : j < s.size) : (Lib.bytesWorld w e s).cell? ⟨w.heap.size, j, none⟩ = some (.int .u8 (((by_ s).getD j 0 : Nat) : Int)) := by
  rw [Lib.bytesWorld_cell w e s j hj]
  have h2 : j < s.data.toList.length := by rw [Array.length_toList]; exact hj
  unfold by_
  simp only [List.getD, List.getElem?_map, List.getElem?_eq_getElem h2, Option.map_some, Option.getD_some]
end Go.Proofs.YtijcijdgpeolhaaDoor
/- Texts of integers: blocks. -/
namespace Go.Proofs.YtijcijdgpeolhaaDoor
open Go.RowKit

theorem by_ext2 (s : ByteArray) (i j : Nat) : by_ (s.extract i j) = ((by_ s).take j).drop i := by
  obtain ⟨⟨s⟩⟩ := s
  unfold by_
  rw [ByteArray.extract_mk]
  simp [List.map_take, List.map_drop, List.drop_take]
theorem run_bytes (t : ByteArray) (W : World) : (convert 9 48 (.string t)).run Tryd.prog W = .ok (.slice (some ⟨W.heap.size, 0, none⟩) t.size (grownCap W t.size 0 5)) (Lib.bytesWorld W 5 t) :=
  Lib.run_convert_string_bytes W _ _ 5 t Tryd.underlying9 Tryd.underlying48 Tryd.underlying5
theorem digit_at {l : List Nat} {j b : Nat} (h : digsB l = true) (hj : j < l.length) (Hb : Hid (b = l.getD j 0)) : 48 ≤ b ∧ b ≤ 57 := by
  rw [Hb.out]
  cases e : decide (48 ≤ l.getD j 0 ∧ l.getD j 0 ≤ 57) with
  | true => exact of_decide_eq_true e
  | false => exact absurd (digsB_bad hj (of_decide_eq_false e)) (by rw [h]; simp)
theorem dvf_9 {l : List Nat} {n : Nat} (h : digsB l = true) (hn : n ≤ 9) : dvf 0 (l.take n) < 1000000000 := by
  have h1 := dvf_lt (l.take n) (digsB_sub h (fun x hx => List.mem_of_mem_take hx))
  have h2 : 10 ^ (l.take n).length ≤ 10 ^ 9 := Nat.pow_le_pow_right (by decide) (by rw [List.length_take]; omega)
  have h3 : (10 : Nat) ^ 9 = 1000000000 := by decide
  omega
theorem blk_step {o : List Nat} {k x A B D : Nat} (hlen : o.length = k) (hB : B = A * 1000000000 + x) (hV : val o + bas k * B = D) : val (o ++ [x]) + bas (k + 1) * A = D := by
  rw [val_append, hlen, bas_succ]
  rw [hB, Nat.mul_add] at hV
  have h1 : val [x] = x := by simp [val]
  have h2 : bas k * (A * 1000000000) = 1000000000 * bas k * A := by rw [Nat.mul_comm A, ← Nat.mul_assoc, Nat.mul_comm (bas k)]
  rw [h1]
  omega
set_option maxRecDepth 1000000 in
set_option maxHeartbeats 4000000 in
theorem blocks_any (s : ByteArray) (w : World) (hs : s.size ≤ 300) (hd : digsB (by_ s) = true) (h0 : 0 < s.size → (by_ s).getD 0 0 ≠ 48) : Calls Tryd.prog 30 #[.string s] w (RetLim w (dvf 0 (by_ s))) := by
  have HL := hide (by_len s)
  go_enter Tryd.func30, Tryd.ntmps30
  go_wp2
  go_loopw [3, 4] (fun v ev wr => ∃ (k : Nat) (z : Int) (o : List Nat), ev = .int .i64 z ∧ z ≤ 300 ∧ z ≤ s.size ∧ -9 < z ∧ 9 * (k : Int) + z = s.size ∧ Own wr w.heap.size v k o ∧ Dig o ∧ Hid (val o + bas k * dvf 0 ((by_ s).take z.toNat) = dvf 0 (by_ s)) ∧ Hid (z ≤ 0 → ∀ x, o.getLast? = some x → x ≠ 0) ∧ Up w wr) (fun _ ev _ => (intOf ev).toNat)
  case atStart => exact ⟨0, s.size, [], rfl, by omega, by omega, by omega, by omega, Own.nil _ _, (fun x hx => by cases hx), by show _ = _; rw [Int.toNat_natCast, ← HL.out, List.take_length]; simp [val, bas], (fun _ x hx => by cases hx), Up.refl w⟩
  case round =>
    obtain ⟨k, z, o, rfl, hz3, hzs, hz9, hkz, hown, hdo, HV, HG, hup⟩ := hrel
    have hsz := hup.size
    by_cases hgo : 0 < z
    · obtain ⟨e, rfl⟩ : ∃ e : Nat, z = e := ⟨z.toNat, by omega⟩
      by_cases h9 : 9 < e
      · obtain ⟨a, rfl⟩ : ∃ a, e = a + 9 := ⟨e - 9, by omega⟩
        obtain ⟨t, ht⟩ : ∃ t, t = s.extract a (a + 9) := ⟨_, rfl⟩
        obtain ⟨N, hN⟩ : ∃ N, N = (a + 9) - a := ⟨_, rfl⟩
        have hts : t.size = N := by rw [ht, ByteArray.size_extract]; omega
        have HT : Hid (by_ t = ((by_ s).take (a + 9)).drop a) := by show _ = _; rw [ht, by_ext2 s]
        have hN9 : N ≤ 9 := by omega
        have HN := hide hN
        clear hN
        have hcv := run_bytes t wr
        rw [hts] at hcv
        conv at hcv => lhs; rw [ht]
        have HB := hide (dvf_block (by_ s) a (a + 9) (by omega) (by rw [HL.out]; omega))
        have hdt : digsB (by_ t) = true := digsB_sub hd (fun x hx => by rw [HT.out] at hx; exact List.mem_of_mem_take (List.mem_of_mem_drop hx))
        have HLt := hide (by_len t)
        clear ht
        go_wp2
        obtain ⟨W1, hW1⟩ : ∃ x, x = Lib.bytesWorld wr 5 t := ⟨_, rfl⟩
        have hc1 : ∀ j, j < N → W1.cell? ⟨wr.heap.size, j, none⟩ = some (.int .u8 (((by_ t).getD j 0 : Nat) : Int)) := fun j hj => by rw [hW1]; exact bytes_cell wr _ t j (by omega)
        have hu1 : Up wr W1 := by rw [hW1]; exact up_bytes wr _ t
        rw [← hW1]
        clear hW1 hcv
        have HC := hide hc1
        clear hc1
        go_loop [5, 22] (fun v iv => ∃ j x : Nat, iv = .int .i64 j ∧ j ≤ N ∧ v = .int .u32 x ∧ x < 1000000000 ∧ Hid (x = dvf 0 ((by_ t).take j))) (fun _ iv => N - (intOf iv).toNat)
        case atStart => exact ⟨0, 0, rfl, by omega, rfl, by omega, rfl⟩
        case round =>
          obtain ⟨j, x, rfl, hj, rfl, hx, HX⟩ := hrel
          by_cases hjn : j < N
          · obtain ⟨b, Hb⟩ : ∃ b, Hid (b = (by_ t).getD j 0) := ⟨_, rfl⟩
            have hcell : W1.cell? ⟨wr.heap.size, j, none⟩ = some (.int .u8 (b : Int)) := by rw [HC.out j hjn, ← Hb.out]
            obtain ⟨h1, h2⟩ := digit_at hdt (by rw [HLt.out, hts]; exact hjn) Hb
            have HX2 : Hid (x * 10 + (b - 48) = dvf 0 ((by_ t).take (j + 1))) := by show _ = _; rw [dvf_step (by rw [HLt.out, hts]; exact hjn), ← HX.out, ← Hb.out]
            have hx2 : x * 10 + (b - 48) < 1000000000 := by rw [HX2.out]; exact dvf_9 hdt (by omega)
            go_wp2
            go_round
            case rel => exact ⟨j + 1, x * 10 + (b - 48), by go_num, by omega, by go_num, hx2, HX2⟩
            case measure => simp [intOf] <;> omega
          · obtain rfl : j = N := by omega
            have HXN : Hid (x = dvf 0 (by_ t)) := by show _ = _; rw [HX.out, List.take_of_length_le (by rw [HLt.out, hts]; exact Nat.le_refl _)]
            go_wp2_with (at_builtin; refine wp_app rfl _ _ rfl w.heap.size _ k _ rfl (show Own _ _ _ _ _ from World.ownsRow.alloc (hown.up hu1) _) (some ⟨W1.heap.size, 0, none⟩) 1 1 [x] rfl rfl (lim_one _ _ _ rfl) (by omega) (by have := hu1.size; simp; omega) ?_; intro v1 w1 hown1 hgrow1)
            go_roundw
            case rel =>
              have hB2 : dvf 0 ((by_ s).take (a + 9)) = dvf 0 ((by_ s).take a) * 1000000000 + x := by
                rw [HB.out, HXN.out, HT.out, show a + 9 - a = 9 by omega]
              have hV2 := HV.out
              rw [Int.toNat_natCast] at hV2
              exact ⟨k + 1, (a : Int), o ++ [x], by go_num, by omega, by omega, by omega, by omega, hown1, dig_snoc hdo hx, (by show _ = _; rw [Int.toNat_natCast]; exact blk_step hown.len hB2 hV2), (fun h => by omega), (hup.trans (hu1.alloc _)).grown hgrow1 (fun q hq => (hown.lt q hq).1)⟩
            case measure => simp [intOf] <;> omega
      · skip
        obtain ⟨t, ht⟩ : ∃ t, t = s.extract 0 e := ⟨_, rfl⟩
        obtain ⟨N, hN⟩ : ∃ N, N = e - 0 := ⟨_, rfl⟩
        have hts : t.size = N := by rw [ht, ByteArray.size_extract]; omega
        have HT : Hid (by_ t = ((by_ s).take e).drop 0) := by show _ = _; rw [ht, by_ext2 s]
        have hN9 : N ≤ 9 := by omega
        have HN := hide hN
        clear hN
        have hcv := run_bytes t wr
        rw [hts] at hcv
        conv at hcv => lhs; rw [ht]
        have HB := hide (dvf_block (by_ s) 0 e (by omega) (by rw [HL.out]; omega))
        have hdt : digsB (by_ t) = true := digsB_sub hd (fun x hx => by rw [HT.out] at hx; exact List.mem_of_mem_take (List.mem_of_mem_drop hx))
        have HLt := hide (by_len t)
        clear ht
        go_wp2
        obtain ⟨W1, hW1⟩ : ∃ x, x = Lib.bytesWorld wr 5 t := ⟨_, rfl⟩
        have hc1 : ∀ j, j < N → W1.cell? ⟨wr.heap.size, j, none⟩ = some (.int .u8 (((by_ t).getD j 0 : Nat) : Int)) := fun j hj => by rw [hW1]; exact bytes_cell wr _ t j (by omega)
        have hu1 : Up wr W1 := by rw [hW1]; exact up_bytes wr _ t
        rw [← hW1]
        clear hW1 hcv
        have HC := hide hc1
        clear hc1
        go_loop [5, 22] (fun v iv => ∃ j x : Nat, iv = .int .i64 j ∧ j ≤ N ∧ v = .int .u32 x ∧ x < 1000000000 ∧ Hid (x = dvf 0 ((by_ t).take j))) (fun _ iv => N - (intOf iv).toNat)
        case atStart => exact ⟨0, 0, rfl, by omega, rfl, by omega, rfl⟩
        case round =>
          obtain ⟨j, x, rfl, hj, rfl, hx, HX⟩ := hrel
          by_cases hjn : j < N
          · obtain ⟨b, Hb⟩ : ∃ b, Hid (b = (by_ t).getD j 0) := ⟨_, rfl⟩
            have hcell : W1.cell? ⟨wr.heap.size, j, none⟩ = some (.int .u8 (b : Int)) := by rw [HC.out j hjn, ← Hb.out]
            obtain ⟨h1, h2⟩ := digit_at hdt (by rw [HLt.out, hts]; exact hjn) Hb
            have HX2 : Hid (x * 10 + (b - 48) = dvf 0 ((by_ t).take (j + 1))) := by show _ = _; rw [dvf_step (by rw [HLt.out, hts]; exact hjn), ← HX.out, ← Hb.out]
            have hx2 : x * 10 + (b - 48) < 1000000000 := by rw [HX2.out]; exact dvf_9 hdt (by omega)
            go_wp2
            go_round
            case rel => exact ⟨j + 1, x * 10 + (b - 48), by go_num, by omega, by go_num, hx2, HX2⟩
            case measure => simp [intOf] <;> omega
          · obtain rfl : j = N := by omega
            have HXN : Hid (x = dvf 0 (by_ t)) := by show _ = _; rw [HX.out, List.take_of_length_le (by rw [HLt.out, hts]; exact Nat.le_refl _)]
            go_wp2_with (at_builtin; refine wp_app rfl _ _ rfl w.heap.size _ k _ rfl (show Own _ _ _ _ _ from World.ownsRow.alloc (hown.up hu1) _) (some ⟨W1.heap.size, 0, none⟩) 1 1 [x] rfl rfl (lim_one _ _ _ rfl) (by omega) (by have := hu1.size; simp; omega) ?_; intro v1 w1 hown1 hgrow1)
            go_roundw
            case rel =>
              have hB2 : dvf 0 ((by_ s).take e) = 0 * 1000000000 + x := by
                rw [HB.out, HXN.out, HT.out]; simp [dvf]
              have hV2 := HV.out
              rw [Int.toNat_natCast] at hV2
              have hx0 : x ≠ 0 := by
                have h1 := dvf_pos (l := by_ t) hdt (by rw [HT.out, List.drop_zero]; have := h0 (by omega); simpa [List.getD, show 0 < e by omega] using this) (by rw [HLt.out, hts, HN.out]; omega)
                rw [← HXN.out] at h1
                omega
              refine ⟨k + 1, (e : Int) - 9, o ++ [x], by go_num, by omega, by omega, by omega, by omega, hown1, dig_snoc hdo hx, ?_, ?_, (hup.trans (hu1.alloc _)).grown hgrow1 (fun q hq => (hown.lt q hq).1)⟩
              · show _ = _
                rw [show ((e : Int) - 9).toNat = 0 by omega, List.take_zero]
                exact blk_step hown.len hB2 hV2
              · intro _ y hy
                simp at hy
                rw [← hy]; exact hx0
            case measure => simp [intOf] <;> omega
    · obtain ⟨A', c', rfl, hcc, hlim, hnew⟩ := hown.lim
      have HE : Hid (o = lim (dvf 0 (by_ s))) := by
        show o = _
        have h1 := HV.out
        rw [show z.toNat = 0 by omega, List.take_zero] at h1
        have h2 : val o = dvf 0 (by_ s) := by rw [← h1]; simp [dvf]
        rw [← h2, lim_val hdo (HG.out (by omega))]
      go_wp2
      go_ret
      exact ⟨A', k, c', rfl, by rw [← HE.out]; exact hown.len.symm, by rw [← HE.out]; exact hlim, hcc, hnew, hup⟩
end Go.Proofs.YtijcijdgpeolhaaDoor
/- Texts of integers: Parse. -/
namespace Go.Proofs.YtijcijdgpeolhaaDoor
open Go.RowKit

theorem cut_size (s : ByteArray) : (cutS s).size ≤ s.size := by
  unfold cutS
  split
  · rw [ByteArray.size_extract]; omega
  · exact Nat.le_refl _
theorem bas_pow (n : Nat) : bas n = 10 ^ (9 * n) := by
  induction n with
  | zero => rfl
  | succ n ih => rw [bas_succ, ih, show 9 * (n + 1) = 9 * n + 9 from rfl, Nat.pow_add, Nat.mul_comm]
theorem pow_top (k n : Nat) (h : k ≤ 3 + 9 * n) : 10 ^ k ≤ 10 ^ 3 * bas n := by
  rw [bas_pow, ← Nat.pow_add]
  exact Nat.pow_le_pow_right (by decide) h
theorem dvf_top {l : List Nat} (h : digsB l = true) (hl : l.length ≤ 300) : dvf 0 l < top300 := by
  have h1 := dvf_lt l h
  have h2 := pow_top l.length 33 (by omega)
  unfold top300
  exact Nat.lt_of_lt_of_le h1 h2
theorem natB_out {l : List Nat} (h : natB l = true) : 0 < l.length ∧ l.getD 0 0 ≠ 48 ∧ l.length ≤ 300 ∧ digsB l = true := by
  unfold natB at h
  simp only [Bool.and_eq_true, decide_eq_true_eq] at h
  exact ⟨h.1, h.2.1, h.2.2.1, h.2.2.2⟩
set_option maxHeartbeats 1000000 in
theorem parse_no (s : ByteArray) (w : World) (hs : s.size ≤ 1000) (hq : (s.toList == [48]) = false) (hn : natB (by_ (cutS s)) = false) : Calls Tryd.prog 9 #[.string s] w (RetNo w) := by
  have hsz := cut_size s
  have hc1 := fun w => cut_any s w (by omega)
  have hc2 := fun w => natural_any (cutS s) w (by omega)
  rw [hn] at hc2
  go_enter Tryd.func9, Tryd.ntmps9
  go_wp2_with (first | (go_at_call 27; refine (hc1 _).mono ?_; rintro e w' ⟨rfl, rfl⟩) | (go_at_call 28; refine (hc2 _).mono ?_; rintro e w' ⟨rfl, rfl⟩))
  refine bodyPost_ret (v := .tuple #[.agg #[.bool false, .slice none 0 0], .int .i64 2]) (by simp [results, Tryd.results9, go_sem]) rfl ⟨_, rfl, IsInt.zero _ _, (Up.refl w).alloc _⟩
set_option maxHeartbeats 2000000 in
theorem parse_yes (s : ByteArray) (w : World) (hs : s.size ≤ 1000) (hq : (s.toList == [48]) = false) (hn : natB (by_ (cutS s)) = true) : Calls Tryd.prog 9 #[.string s] w fun e w' => ∃ v, e = .returned (.tuple #[v, .int .i64 0]) ∧ IsInt w.heap.size w' v (sgn (negB s) (dvf 0 (by_ (cutS s)))) ∧ Up w w' := by
  have hsz := cut_size s
  obtain ⟨hl, h48, h300, hd⟩ := natB_out hn
  rw [by_len] at hl h300
  have hpos := dvf_pos hd h48 (by rw [by_len]; exact hl)
  have hc1 := fun w => cut_any s w (by omega)
  have hc2 := fun w => natural_any (cutS s) w (by omega)
  have hc3 := fun w => blocks_any (cutS s) w h300 hd (fun _ => h48)
  rw [hn] at hc2
  obtain ⟨N, hN⟩ : ∃ N, N = dvf 0 (by_ (cutS s)) := ⟨_, rfl⟩
  obtain ⟨b, hb⟩ : ∃ b, b = negB s := ⟨_, rfl⟩
  rw [← hN] at hpos hc3
  rw [← hb] at hc1
  rw [← hN, ← hb]
  have hlim : 0 < (lim N).length := by
    rcases Nat.eq_zero_or_pos (lim N).length with h | h
    · have h1 := val_lim N
      rw [List.length_eq_zero_iff.1 h] at h1
      simp [val] at h1; omega
    · exact h
  have h34 : (lim N).length ≤ 1000000 := by
    have := len_of_top (n := N) (by rw [hN]; exact dvf_top hd (by rw [by_len]; exact h300))
    omega
  clear hN hb hn hd h48
  obtain ⟨w0, hw0⟩ : ∃ w0, w0 = (w.alloc (.cells #[.bool false, .slice none 0 0] 25)) := ⟨_, rfl⟩
  have hb1 : Bk w0 (w.heap.size) 25 #[.bool false, .slice none 0 0] := by
    have := Bk.new w 25 #[.bool false, .slice none 0 0]
    rw [hw0]; simpa using this
  have hup0 : Up w w0 := by rw [hw0]; exact (Up.refl w).alloc _
  have hsz0 : w.heap.size + 1 ≤ w0.heap.size := by rw [hw0]; simp
  have Hw0 := hide hw0
  clear hw0
  have e1a := hb1.cell (i := 0) rfl
  have e1b := hb1.cell (i := 1) rfl
  go_enter Tryd.func9, Tryd.ntmps9
  go_wp2_with fail
  rw [← Hw0.out]
  refine (hc1 _).mono ?_
  rintro e w' ⟨rfl, rfl⟩
  go_wp2_with fail
  refine (hc2 _).mono ?_
  rintro e w' ⟨rfl, rfl⟩
  go_wp2_with fail
  refine (hc3 _).mono ?_
  rintro e w1 ⟨A1, n1, c1, rfl, hn1, hl1, hc1', hnew1, hup1⟩
  go_wp2_with fail
  refine (signed_any b A1 c1 n1 _ (by rw [hn1.out]; exact h34)).mono ?_
  rintro e w2 ⟨rfl, hup2⟩
  have hb5 := (hb1.up hup1).up hup2
  have f1 := hb5.cell (i := 0) rfl
  have f2 := hb5.cell (i := 1) rfl
  have f3 := hb5.frozen 0
  have f4 := hb5.frozen 1
  have hdn : decide (0 < n1) = true := decide_eq_true (by rw [hn1.out]; exact hlim)
  rw [hdn, Bool.and_true]
  have q := hb5.two (.bool b) (.slice A1 n1 c1)
  go_wp2
  refine bodyPost_ret (v := .tuple #[.agg #[.bool b, .slice A1 n1 c1], .int .i64 0]) (by simp [results, Tryd.results9, go_sem, q.1, q.2]) rfl ⟨_, rfl, ⟨b, A1, n1, c1, rfl, ?_, by rw [sgn_abs]; exact hn1, by rw [sgn_abs]; exact (hl1.up hup2).two (hnew1.mono (by omega)) _ _, hc1', hnew1.mono (by omega)⟩, ((hup0.trans hup1).trans hup2).two (by omega) _ _⟩
  exact (sgn_neg (by omega)).symm
end Go.Proofs.YtijcijdgpeolhaaDoor
/- Decimal texts: plain numbers. -/
namespace Go.Proofs.YtijcijdgpeolhaaDoor
open Go.RowKit

/-- The string of some bytes. -/
def bs (l : List Nat) : ByteArray := ⟨(l.map UInt8.ofNat).toArray⟩
theorem bs_size (l : List Nat) : (bs l).size = l.length := by
  show (l.map UInt8.ofNat).toArray.size = _
  simp
theorem by_bs (l : List Nat) (h : ∀ x ∈ l, x < 256) : by_ (bs l) = l := by
  unfold by_ bs
  simp only [List.map_map]
  conv => rhs; rw [← List.map_id l]
  refine List.map_congr_left fun x hx => ?_
  show (UInt8.ofNat x).toNat = x
  exact UInt8.toNat_ofNat_of_lt' (h x hx)
theorem bs_by (s : ByteArray) : bs (by_ s) = s := by
  unfold by_ bs
  rw [List.map_map]
  have : (UInt8.ofNat ∘ UInt8.toNat) = id := by funext b; simp
  rw [this, List.map_id]
theorem bs_append (a b : List Nat) : bs a ++ bs b = bs (a ++ b) := by
  unfold bs
  rw [ByteArray.mk_append_mk]
  simp
theorem by_inj {s t : ByteArray} (h : by_ s = by_ t) : s = t := by rw [← bs_by s, ← bs_by t, h]

/-- The k lowest decimal digits of N, as bytes, the highest ahead. -/
def dg : Nat → Nat → List Nat
  | 0, _ => []
  | k + 1, N => dg k (N / 10) ++ [48 + N % 10]
theorem dg_len (k N : Nat) : (dg k N).length = k := by
  induction k generalizing N with
  | zero => rfl
  | succ k ih => simp [dg, ih]
theorem dg_front (k N : Nat) : dg (k + 1) N = (48 + N / 10 ^ k % 10) :: dg k N := by
  induction k generalizing N with
  | zero => simp [dg]
  | succ k ih =>
    show dg (k + 1) (N / 10) ++ [48 + N % 10] = _ :: (dg k (N / 10) ++ [48 + N % 10])
    rw [ih, Nat.div_div_eq_div_mul, show 10 * 10 ^ k = 10 ^ (k + 1) by rw [Nat.pow_succ, Nat.mul_comm]]
    rfl
theorem dg_add (a b N : Nat) : dg (a + b) N = dg a (N / 10 ^ b) ++ dg b N := by
  induction b generalizing N with
  | zero => simp [dg]
  | succ b ih =>
    show dg (a + b) (N / 10) ++ [48 + N % 10] = _ ++ (dg b (N / 10) ++ [48 + N % 10])
    rw [ih, Nat.div_div_eq_div_mul, show 10 * 10 ^ b = 10 ^ (b + 1) by rw [Nat.pow_succ, Nat.mul_comm], List.append_assoc]
theorem dg_zero (k : Nat) : dg k 0 = List.replicate k 48 := by
  induction k with
  | zero => rfl
  | succ k ih =>
    show dg k (0 / 10) ++ [48 + 0 % 10] = _
    rw [show 0 / 10 = 0 from rfl, ih, List.replicate_succ']
theorem dg_mem {k N x : Nat} (h : x ∈ dg k N) : 48 ≤ x ∧ x ≤ 57 := by
  induction k generalizing N with
  | zero => simp [dg] at h
  | succ k ih =>
    simp only [dg, List.mem_append, List.mem_singleton] at h
    rcases h with h | h
    · exact ih h
    · omega
theorem dg_block (k x M : Nat) (h : x < 10 ^ k) : dg k (x + 10 ^ k * M) = dg k x := by
  induction k generalizing x M with
  | zero => rfl
  | succ k ih =>
    rw [Nat.pow_succ, Nat.mul_comm] at h
    have h1 : 10 ^ (k + 1) * M = 10 * (10 ^ k * M) := by rw [Nat.pow_succ, Nat.mul_comm (10 ^ k) 10, Nat.mul_assoc]
    show dg k ((x + 10 ^ (k + 1) * M) / 10) ++ [48 + (x + 10 ^ (k + 1) * M) % 10] = dg k (x / 10) ++ [48 + x % 10]
    have e1 : (x + 10 ^ (k + 1) * M) / 10 = x / 10 + 10 ^ k * M := by rw [h1]; omega
    have e2 : (x + 10 ^ (k + 1) * M) % 10 = x % 10 := by rw [h1]; omega
    rw [e1, e2, ih _ _ (by omega)]
/-- The decimal digits of N; none of 0. -/
def txt (N : Nat) : List Nat := dg (dgt N) N
theorem txt_len (N : Nat) : (txt N).length = dgt N := dg_len _ _
theorem dgt_shift (b N : Nat) (h : N / 10 ^ b ≠ 0) : dgt N = dgt (N / 10 ^ b) + b := by
  induction b generalizing N with
  | zero => simp
  | succ b ih =>
    rw [show 10 ^ (b + 1) = 10 * 10 ^ b by rw [Nat.pow_succ, Nat.mul_comm], ← Nat.div_div_eq_div_mul] at h ⊢
    have hN : N ≠ 0 := by rintro rfl; simp at h
    rw [dgt_pos hN, ih _ h]; omega
theorem div_block (k x M : Nat) (h : x < 10 ^ k) : (x + 10 ^ k * M) / 10 ^ k = M := by
  rw [Nat.add_mul_div_left _ _ (Nat.pow_pos (by decide)), Nat.div_eq_of_lt h, Nat.zero_add]
/-- A block of nine digits behind. -/
theorem txt_block (x M : Nat) (hM : M ≠ 0) (h : x < 1000000000) : txt (x + 1000000000 * M) = txt M ++ dg 9 x := by
  have hx : x < 10 ^ 9 := h
  have hd := div_block 9 x M hx
  unfold txt
  rw [show 1000000000 = 10 ^ 9 from rfl, dgt_shift 9 _ (by rw [hd]; exact hM), hd, dg_add, hd, dg_block 9 x M hx]
theorem dg_pad (m k x : Nat) (hm : m ≤ k) (hx : x < 10 ^ m) : dg k x = List.replicate (k - m) 48 ++ dg m x := by
  obtain ⟨a, rfl⟩ : ∃ a, k = a + m := ⟨k - m, by omega⟩
  rw [dg_add, Nat.div_eq_of_lt hx, dg_zero, show a + m - m = a by omega]
theorem dgt_lt (N : Nat) : N < 10 ^ dgt N := dgt_le.1 (Nat.le_refl _)
theorem dgt_ndig {u : Nat} (h : u ≠ 0) : Lib.nDigits u = dgt u := by
  induction u using Nat.strongRecOn with
  | _ u ih =>
    by_cases h1 : u < 10
    · rw [Lib.nDigits_small h1, dgt_pos h, show u / 10 = 0 by omega, dgt_zero]
    · rw [Lib.nDigits_big h1, dgt_pos h, ih (u / 10) (by omega) (by omega)]
theorem dec_dg (u : Nat) : Lib.decDigits u = (dg (Lib.nDigits u) u).map UInt8.ofNat := by
  induction u using Nat.strongRecOn with
  | _ u ih =>
    by_cases h1 : u < 10
    · rw [Lib.decDigits, dif_pos h1, Lib.nDigits_small h1]
      simp [dg, Nat.mod_eq_of_lt h1]
    · rw [Lib.decDigits, dif_neg h1, Lib.nDigits_big h1, ih (u / 10) (by omega)]
      simp [dg]
/-- What FormatUint gives of u. -/
def ubs (u : Nat) : ByteArray := bs (dg (Lib.nDigits u) u)
theorem ubs_dec (u : Nat) : (⟨(Lib.decDigits u).toArray⟩ : ByteArray) = ubs u := by rw [dec_dg]; rfl
theorem ubs_size (u : Nat) : (ubs u).size = Lib.nDigits u := by unfold ubs; rw [bs_size, dg_len]
theorem ndig_9 {u : Nat} (h : u < 1000000000) : 1 ≤ Lib.nDigits u ∧ Lib.nDigits u ≤ 9 := by
  refine ⟨Lib.nDigits_pos u, ?_⟩
  by_cases h0 : u = 0
  · subst h0; rw [Lib.nDigits_small (by decide)]; decide
  · rw [dgt_ndig h0]; exact dgt_le.2 h
theorem dvf_dg (k N : Nat) : dvf 0 (dg k N) = N % 10 ^ k := by
  induction k generalizing N with
  | zero => simp [dg, dvf, Nat.mod_one]
  | succ k ih =>
    show dvf 0 (dg k (N / 10) ++ [48 + N % 10]) = _
    rw [dvf_append, ih, Nat.pow_succ, Nat.mul_comm (10 ^ k) 10, Nat.mod_mul]
    simp [dvf]; omega
theorem dvf_txt (N : Nat) : dvf 0 (txt N) = N := by unfold txt; rw [dvf_dg, Nat.mod_eq_of_lt (dgt_lt N)]
theorem digsB_dg (k N : Nat) : digsB (dg k N) = true := by
  unfold digsB
  rw [List.all_eq_true]
  intro x hx
  have := dg_mem hx
  simp [this.1, this.2]
theorem txt_first {N : Nat} (h : N ≠ 0) : (txt N).getD 0 0 ≠ 48 := by
  obtain ⟨k, hk⟩ : ∃ k, dgt N = k + 1 := ⟨dgt N - 1, by have := dgt_pos h; omega⟩
  unfold txt
  rw [hk, dg_front]
  have h1 : ¬ N < 10 ^ k := fun h2 => by have := dgt_le.2 h2; omega
  have h2 := dgt_lt N
  rw [hk, Nat.pow_succ] at h2
  have h3 : N / 10 ^ k < 10 := Nat.div_lt_of_lt_mul h2
  have h4 : 1 ≤ N / 10 ^ k := (Nat.le_div_iff_mul_le (Nat.pow_pos (by decide))).2 (by omega)
  show 48 + N / 10 ^ k % 10 ≠ 48
  omega
/-- A digit of a number is one of its limb's. -/
theorem limb_digit {l : List Nat} (h : Dig l) (i k : Nat) (hk : k < 9) : val l / 10 ^ (9 * i + k) % 10 = l.getD i 0 / 10 ^ k % 10 := by
  have hdiv : val l / bas i = l.getD i 0 + 1000000000 * (val l / bas (i + 1)) := by
    have h1 := val_take_step l i
    have h2 : val l / bas (i + 1) = val l / bas i / 1000000000 := by rw [bas_succ, Nat.mul_comm, Nat.div_div_eq_div_mul]
    by_cases hi : i < l.length
    · have h3 := val_split l hi
      have h4 : val (l.take i) < bas i := by
        have := val_lt (dig_take h i)
        rwa [List.length_take, Nat.min_eq_left (by omega)] at this
      have h5 : val l / bas i = l.getD i 0 + 1000000000 * val (l.drop (i + 1)) := by
        rw [h3, Nat.add_mul_div_left _ _ (bas_pos i), Nat.div_eq_of_lt h4, Nat.zero_add]
      have h6 := dig_getD h i
      rw [h2, h5]; omega
    · have h3 := val_lt h
      have h4 := bas_mono (show l.length ≤ i by omega)
      have h5 : val l / bas i = 0 := Nat.div_eq_of_lt (by omega)
      rw [h2, h5, List.getD, List.getElem?_eq_none (by omega)]; rfl
  rw [Nat.pow_add, ← Nat.div_div_eq_div_mul, ← bas_pow, hdiv]
  obtain ⟨m, hm⟩ : ∃ m, m + k + 1 = 9 := ⟨8 - k, by omega⟩
  have e : 1000000000 * (val l / bas (i + 1)) = 10 ^ k * (10 * (10 ^ m * (val l / bas (i + 1)))) := by
    rw [show 1000000000 = 10 ^ (m + k + 1) by rw [hm], Nat.pow_succ, Nat.pow_add, ← Nat.mul_assoc, ← Nat.mul_assoc]
    congr 1
    rw [Nat.mul_comm (10 ^ m) (10 ^ k), Nat.mul_assoc, Nat.mul_assoc, Nat.mul_comm (10 ^ m) 10]
  rw [e, Nat.add_mul_div_left _ _ (Nat.pow_pos (by decide))]
  omega
end Go.Proofs.YtijcijdgpeolhaaDoor
/- The reference's Format. -/
namespace Go.Proofs.YtijcijdgpeolhaaDoor
open Go.RowKit

/-- The text of an integer. -/
def itxt (z : Int) : List Nat := if z = 0 then [48] else if z < 0 then 45 :: txt z.natAbs else txt z.natAbs
theorem rune_str0 (d : Nat) (h : d < 10) : Utf8.encode ((48 : Int) + (d : Int)) = bs [48 + d] := by
  have : d = 0 ∨ d = 1 ∨ d = 2 ∨ d = 3 ∨ d = 4 ∨ d = 5 ∨ d = 6 ∨ d = 7 ∨ d = 8 ∨ d = 9 := by omega
  rcases this with rfl | rfl | rfl | rfl | rfl | rfl | rfl | rfl | rfl | rfl <;> decide +kernel
theorem rune_str (x : Nat) : Utf8.encode ((48 : Int) + (x : Int) % 10) = bs [48 + x % 10] := by
  rw [← rune_str0 (x % 10) (by omega)]; rfl
theorem rune_step {N i k x x0 : Nat} (hk : k < 9) (hx0 : x0 = (lim N).getD i 0) (hx : x = x0 / 10 ^ k) : Utf8.encode ((48 : Int) + (x : Int) % 10) ++ bs (dg (9 * i + k) N) = bs (dg (9 * i + (k + 1)) N) := by
  have h := limb_digit (dig_lim N) i k hk
  rw [val_lim, ← hx0, ← hx] at h
  rw [rune_str, bs_append, show 9 * i + (k + 1) = 9 * i + k + 1 by omega, dg_front, h]; rfl
theorem dgt_more {x0 k x : Nat} (hx : x = x0 / 10 ^ k) (h : 0 < x) : k + 1 ≤ dgt x0 := by
  rcases Nat.lt_or_ge k (dgt x0) with h1 | h1
  · exact h1
  · have h2 := dgt_le.1 h1
    rw [Nat.div_eq_of_lt h2] at hx; omega
theorem dgt_less {x0 k x : Nat} (hx : x = x0 / 10 ^ k) (h : ¬ 0 < x) : dgt x0 ≤ k := by
  refine dgt_le.2 ?_
  have h1 : x0 / 10 ^ k = 0 := by omega
  rcases Nat.div_eq_zero_iff.1 h1 with h2 | h2
  · exact absurd h2 (Nat.pos_iff_ne_zero.1 (Nat.pow_pos (by decide)))
  · exact h2
theorem dgt_top {N n : Nat} (hn : n = (lim N).length) (h0 : 0 < n) : dgt N = 9 * (n - 1) + dgt ((lim N).getD (n - 1) 0) ∧ (lim N).getD (n - 1) 0 ≠ 0 := by
  have hk : n - 1 < (lim N).length := by omega
  have h1 := val_split (lim N) hk
  have h2 : (lim N).drop (n - 1 + 1) = [] := List.drop_eq_nil_of_le (by omega)
  rw [h2, val_lim] at h1
  have h3 : val ((lim N).take (n - 1)) < bas (n - 1) := by
    have := val_lt (dig_take (dig_lim N) (n - 1))
    rwa [List.length_take, Nat.min_eq_left (by omega)] at this
  have h4 : N / bas (n - 1) = (lim N).getD (n - 1) 0 := by
    generalize (lim N).getD (n - 1) 0 = t at h1 ⊢
    generalize val ((lim N).take (n - 1)) = A at h1 h3
    rw [h1, Nat.add_mul_div_left _ _ (bas_pos _), Nat.div_eq_of_lt h3]; simp [val]
  have hne : lim N ≠ [] := by intro h; rw [h] at hk; simp at hk
  have h5 : (lim N).getD (n - 1) 0 ≠ 0 := lim_last N _ (by rw [getLast_getD hne, hn])
  rw [bas_pow] at h4
  refine ⟨?_, h5⟩
  rw [dgt_shift (9 * (n - 1)) N (by rw [h4]; exact h5), h4]; omega
theorem rformat_zero (B : Nat) (v : Value) (w : World) (hv : IsInt B w v 0) : Calls Tryd.prog 12 #[v] w fun e w' => e = .returned (.string (bs [48])) ∧ Up w w' := by
  obtain ⟨s, A, n, c, rfl, Hs, Hn, hl, hc, _⟩ := hv
  obtain rfl : n = 0 := by rw [Hn.out]; simp [lim_zero]
  obtain ⟨w0, hw0⟩ : ∃ w0, w0 = (w.alloc (.cells #[.bool s, .slice A 0 c] 25)) := ⟨_, rfl⟩
  have hb1 : Bk w0 (w.heap.size) 25 #[.bool s, .slice A 0 c] := by
    have := Bk.new w 25 #[.bool s, .slice A 0 c]
    rw [hw0]; simpa using this
  have hup0 : Up w w0 := by rw [hw0]; exact (Up.refl w).alloc _
  have Hw0 := hide hw0
  clear hw0
  have e1a := hb1.cell (i := 0) rfl
  have e1b := hb1.cell (i := 1) rfl
  go_enter Tryd.func12, Tryd.ntmps12
  go_wp2_with fail
  rw [← Hw0.out]
  go_wp2
  go_ret
  exact ⟨rfl, hup0⟩
set_option maxHeartbeats 2000000 in
theorem rformat_nz (B : Nat) (v : Value) (z : Int) (w : World) (hv : IsInt B w v z) (hz : z.natAbs < top300) (h0 : z ≠ 0) : Calls Tryd.prog 12 #[v] w fun e w' => e = .returned (.string (bs (itxt z))) ∧ Up w w' := by
  obtain ⟨s, A, n, c, rfl, Hs, Hn, hl, hc, _⟩ := hv
  obtain ⟨N, hN⟩ : ∃ N, N = z.natAbs := ⟨_, rfl⟩
  have HT : Hid (itxt z = if s then 45 :: txt N else txt N) := by
    show itxt z = _
    unfold itxt
    rw [if_neg h0, Hs.out, hN]
    by_cases h : z < 0 <;> simp [h]
  have hN0 : N ≠ 0 := by omega
  rw [← hN] at Hn hl hz
  have hn34 : n ≤ 34 := by rw [Hn.out]; exact len_of_top hz
  have hn0 : 0 < n := by rw [Hn.out]; exact Nat.pos_of_ne_zero fun h => hN0 (lim_len_zero.1 h)
  have HD := hide (dgt_top Hn.out hn0)
  obtain ⟨w0, hw0⟩ : ∃ w0, w0 = (w.alloc (.cells #[.bool s, .slice A n c] 25)) := ⟨_, rfl⟩
  have hb1 : Bk w0 (w.heap.size) 25 #[.bool s, .slice A n c] := by
    have := Bk.new w 25 #[.bool s, .slice A n c]
    rw [hw0]; simpa using this
  have hup0 : Up w w0 := by rw [hw0]; exact (Up.refl w).alloc _
  have hl0 := hl.up hup0
  have Hw0 := hide hw0
  have HZ := hide hz
  clear hw0 hN h0 hz hN0
  have e1a := hb1.cell (i := 0) rfl
  have e1b := hb1.cell (i := 1) rfl
  go_enter Tryd.func12, Tryd.ntmps12
  go_wp2_with fail
  rw [← Hw0.out]
  go_wp2
  go_loop [3, 4] (fun ov iv => ∃ i D : Nat, i ≤ n ∧ iv = .int .i64 i ∧ ov = .string (bs (dg D N)) ∧ Hid ((i < n → D = 9 * i) ∧ (i = n → D = dgt N))) (fun _ iv => n - (intOf iv).toNat)
  case atStart => exact ⟨0, 0, by omega, rfl, rfl, fun _ => rfl, fun h => by omega⟩
  case round =>
    obtain ⟨i, D, hi, rfl, rfl, HI⟩ := hrel
    by_cases hin : i < n
    · obtain ⟨x0, hx0⟩ : ∃ x, Hid (x = (lim N).getD i 0) := ⟨_, rfl⟩
      obtain ⟨ad, rfl, hb, hcell⟩ := hl0.at_ (k := i) (by have := Hn.out; omega)
      rw [← hx0.out] at hcell
      have hx9 : x0 < 1000000000 := by rw [hx0.out]; exact dig_getD (dig_lim N) i
      have hsub : IntKind.i64.wrap ((n : Int) - 1) = ((n - 1 : Nat) : Int) := by rw [IntKind.wrap_i64]; omega
      obtain ⟨P, hP⟩ : ∃ P, P = n - 1 := ⟨_, rfl⟩
      rw [← hP] at hsub
      go_wp2
      go_loop [3, 5, 6] (fun ov xv kv => ∃ k x : Nat, k ≤ 9 ∧ kv = .int .i64 k ∧ xv = .int .u32 x ∧ x < 1000000000 ∧ ov = .string (bs (dg (9 * i + k) N)) ∧ Hid (x = x0 / 10 ^ k) ∧ Hid (i = P → k ≤ dgt x0)) (fun _ _ kv => 9 - (intOf kv).toNat)
      case atStart => exact ⟨0, x0, by omega, rfl, rfl, hx9, by rw [HI.out.1 hin]; rfl, by show _ = _; rw [Nat.pow_zero, Nat.div_one], fun _ => Nat.zero_le _⟩
      case round =>
        obtain ⟨k, x, hk, rfl, rfl, hx, rfl, HX, HK⟩ := hrel
        have hsz : ¬ 9223372036854775807 < (Utf8.encode ((48 : Int) + (x : Int) % 10)).size + (bs (dg (9 * i + k) N)).size := by rw [rune_str, bs_size, bs_size, dg_len]; simp; omega
        by_cases hk9 : k < 9
        · have HS := hide (rune_step hk9 hx0.out HX.out)
          have HX2 : Hid (x / 10 = x0 / 10 ^ (k + 1)) := by show _ = _; rw [HX.out, Nat.div_div_eq_div_mul, ← Nat.pow_succ]
          by_cases hx0' : 0 < x
          · have HK2 : Hid (i = P → k + 1 ≤ dgt x0) := fun _ => dgt_more HX.out hx0'
            go_wp2
            refine ⟨⟨k + 1, x / 10, ?_, ?_, ?_, ?_, ?_, HX2, HK2⟩, ?_⟩
            · omega
            · go_num
            · exact congrArg (Value.int .u32) rfl
            · omega
            · exact congrArg Value.string HS.out
            · simp only [intOf]; omega
          · by_cases hiP : i < P
            · have HK2 : Hid (i = P → k + 1 ≤ dgt x0) := fun h => by omega
              go_wp2
              refine ⟨⟨k + 1, x / 10, ?_, ?_, ?_, ?_, ?_, HX2, HK2⟩, ?_⟩
              · omega
              · go_num
              · exact congrArg (Value.int .u32) rfl
              · omega
              · exact congrArg Value.string HS.out
              · simp only [intOf]; omega
            · have HE : Hid (9 * i + k = dgt N) := by
                have h1 := HD.out.1
                have h2 := HK.out (by omega)
                have h3 := dgt_less HX.out hx0'
                rw [← hP, show P = i by omega, ← hx0.out] at h1
                show _ = _; omega
              clear hsz HS HX2
              go_wp2
              exact ⟨⟨i + 1, by omega, by go_num, 9 * i + k, rfl, fun h => by omega, fun _ => HE.out⟩, by simp [intOf]; omega⟩
        · obtain rfl : k = 9 := by omega
          have HE : Hid (i + 1 = n → 9 * i + 9 = dgt N) := fun h => by
            have h1 := HD.out.1
            have h2 := HK.out (by omega)
            have h3 : dgt x0 ≤ 9 := dgt_le.2 hx9
            rw [← hP, show P = i by omega, ← hx0.out] at h1
            omega
          clear hsz
          go_wp2
          exact ⟨⟨i + 1, by omega, by go_num, 9 * i + 9, rfl, fun h => by omega, fun h => HE.out h⟩, by simp [intOf]; omega⟩
    · obtain rfl : i = n := by omega
      have hD : D = dgt N := HI.out.2 rfl
      have hlen : dgt N ≤ 400 := by rw [HD.out.1]; have : dgt ((lim N).getD (i - 1) 0) ≤ 9 := dgt_le.2 (dig_getD (dig_lim N) _); omega
      have hsz : ¬ 9223372036854775807 < (⟨#[45]⟩ : ByteArray).size + (bs (dg D N)).size := by rw [bs_size, dg_len]; show ¬ 9223372036854775807 < 1 + D; omega
      have HB : Hid (dg D N = txt N) := by show _ = _; rw [hD]; rfl
      rw [← hD] at hlen
      clear hD
      cases s
      · go_wp2
        go_ret
        exact ⟨by rw [HB.out, HT.out]; rfl, hup0⟩
      · go_wp2
        go_ret
        exact ⟨by
          have e : (⟨#[45]⟩ : ByteArray) ++ bs (txt N) = bs (45 :: txt N) := bs_append [45] (txt N)
          rw [HB.out, HT.out, e]; rfl, hup0⟩
end Go.Proofs.YtijcijdgpeolhaaDoor
/- The reference's Parse. -/
namespace Go.Proofs.YtijcijdgpeolhaaDoor
open Go.RowKit

theorem blk_snoc {L : List Nat} {a i : Nat} (ha : a ≤ i) (hi : i < L.length) : (L.take (i + 1)).drop a = (L.take i).drop a ++ [L.getD i 0] := by
  have h1 : L.take (i + 1) = L.take i ++ [L.getD i 0] := by rw [List.take_add_one, List.getElem?_eq_getElem hi]; simp [List.getD, hi]
  rw [h1, List.drop_append_of_le_length (by rw [List.length_take]; omega)]
theorem digsB_append (l m : List Nat) : digsB (l ++ m) = (digsB l && digsB m) := by unfold digsB; rw [List.all_append]
theorem digsB_one {b : Nat} (h1 : 48 ≤ b) (h2 : b ≤ 57) : digsB [b] = true := by simp [digsB, h1, h2]
theorem getD_take {L : List Nat} {e i : Nat} (h : i < e) : (L.take e).getD i 0 = L.getD i 0 := by simp [List.getD, h]
theorem by_take {t : ByteArray} {L : List Nat} {e a : Nat} (h : by_ t = L.take e) (ha : a ≤ e) : Hid (by_ (t.extract 0 a) = L.take a) := by
  show _ = _
  rw [by_ext2, h, List.drop_zero, List.take_take, Nat.min_eq_left ha]
theorem dvf_blk9 {L : List Nat} {a i : Nat} (hd : digsB ((L.take i).drop a) = true) (h : i ≤ a + 9) : dvf 0 ((L.take i).drop a) < 1000000000 := by
  have h1 := dvf_lt _ hd
  refine Nat.lt_of_lt_of_le h1 ?_
  have h2 : ((L.take i).drop a).length ≤ 9 := by rw [List.length_drop, List.length_take]; omega
  exact Nat.pow_le_pow_right (n := 10) (by decide) h2
theorem digsB_ends {L : List Nat} {a e : Nat} (h1 : digsB ((L.take e).drop a) = true) (h2 : digsB (L.drop e) = true) (hae : a ≤ e) : digsB (L.drop a) = true := by
  have h : L.drop a = (L.take e).drop a ++ L.drop e := by
    conv => lhs; rw [← List.take_append_drop e L]
    rw [List.drop_append]
    congr 1
    rw [List.length_take]
    by_cases hl : e ≤ L.length
    · rw [Nat.min_eq_left hl, show a - e = 0 by omega, List.drop_zero]
    · rw [List.drop_eq_nil_of_le (show L.length ≤ e by omega)]; simp
  rw [h, digsB_append, h1, h2]; rfl
theorem digsB_ge {L : List Nat} {i : Nat} (h : i < L.length) (hb : ¬ (48 ≤ L.getD i 0 ∧ L.getD i 0 ≤ 57)) : digsB L = false := digsB_bad h hb

/-- What the reference's Parse gives behind the sign: the integer, or ErrSyntax. -/
def RetP (w : World) (s : ByteArray) (neg : Bool) (L : List Nat) (e : Ending) (w' : World) : Prop :=
  ∃ v E, e = .returned (.tuple #[v, .int .i64 E]) ∧ Up w w' ∧ ((E = 0 ∧ digsB L = true ∧ 0 < L.length ∧ L.length ≤ 300 ∧ bs (itxt (sgn neg (dvf 0 L))) = s ∧ IsInt w.heap.size w' v (sgn neg (dvf 0 L))) ∨
    (E = 2 ∧ ¬ (digsB L = true ∧ 0 < L.length ∧ L.length ≤ 300 ∧ bs (itxt (sgn neg (dvf 0 L))) = s) ∧ IsInt w.heap.size w' v 0))
theorem rformat_any (B : Nat) (v : Value) (z : Int) (w : World) (hv : IsInt B w v z) (hz : z.natAbs < top300) : Calls Tryd.prog 12 #[v] w fun e w' => e = .returned (.string (bs (itxt z))) ∧ Up w w' := by
  by_cases h : z = 0
  · subst h; exact rformat_zero B v w hv
  · exact rformat_nz B v z w hv hz h
/-- The length of a string, as a measure. -/
def strSize : Value → Nat
  | .string t => t.size
  | _ => 0
set_option maxRecDepth 1000000 in
set_option maxHeartbeats 4000000 in
theorem rparse_pos (s : ByteArray) (w : World) (hs : s.size ≤ 1000) (h0 : 0 < s.size) (hn : negB s = false) : Calls Tryd.prog 14 #[.string s] w (RetP w s false (by_ s)) := by
  obtain ⟨b0, Hb0⟩ : ∃ b, Hid (b = (by_ s).getD 0 0) := ⟨_, rfl⟩
  have hi0 : ∀ W : World, (Instr.index 9 (.string s) (.int .i64 0)).run Tryd.prog W = .ok (.int .u8 (b0 : Int)) W := fun W => ix_str s 0 b0 (by omega) Hb0 W
  have hb256 : b0 < 256 := by rw [Hb0.out]; exact byte_lt s 0
  have e45 : ((b0 : Int) == 45) = false := by
    rw [beq_eq_false_iff_ne]; intro h
    unfold negB at hn
    rw [← Hb0.out, decide_eq_false_iff_not] at hn; omega
  clear hn
  have HL := hide (by_len s)
  have hz' := str_empty (s := s) (by omega)
  have hE0 : ((s.size : Int) == 0) = false := by rw [beq_eq_false_iff_ne]; omega
  obtain ⟨w0, hw0⟩ : ∃ w0, w0 = (w.alloc (.cells #[.bool false, .slice none 0 0] 25)) := ⟨_, rfl⟩
  have hb1 : Bk w0 (w.heap.size) 25 #[.bool false, .slice none 0 0] := by
    have := Bk.new w 25 #[.bool false, .slice none 0 0]
    rw [hw0]; simpa using this
  have hup0 : Up w w0 := by rw [hw0]; exact (Up.refl w).alloc _
  have hsz0 : w0.heap.size = w.heap.size + 1 := by rw [hw0]; simp
  have Hw0 := hide hw0
  clear hw0
  have e1a := hb1.cell (i := 0) rfl
  have e1b := hb1.cell (i := 1) rfl
  by_cases h300 : s.size ≤ 300
  · go_enter Tryd.func14, Tryd.ntmps14
    go_wp2_with fail
    rw [← Hw0.out]
    go_wp2
    obtain ⟨L, hL⟩ : ∃ L, L = by_ s := ⟨_, rfl⟩
    have HLl : Hid (L.length = s.size) := by show _ = _; rw [hL]; exact HL.out
    have HTs : Hid (by_ s = L.take s.size) := by show _ = _; rw [← HLl.out, List.take_length, hL]
    rw [← hL]
    have HLs := hide hL
    clear hL
    go_loopw [4, 6] (fun tv lv wr => ∃ (k e : Nat) (t : ByteArray) (o : List Nat), tv = .string t ∧ e ≤ 300 ∧ e ≤ s.size ∧ t.size = e ∧ Hid (by_ t = L.take e) ∧ Own wr (w.heap.size + 1) lv k o ∧ Dig o ∧ k ≤ 300 ∧ Hid (0 < e → 9 * k + e = s.size) ∧ Hid (digsB (L.drop e) = true) ∧ Hid (val o + bas k * dvf 0 (L.take e) = dvf 0 L) ∧ Bk wr w.heap.size 25 #[.bool false, .slice none 0 0] ∧ Up w wr) (fun tv _ _ => strSize tv)
    case atStart => exact ⟨0, s.size, s, [], rfl, by omega, by omega, rfl, HTs, Own.nil _ _, (fun x hx => by cases hx), by omega, (fun _ => by omega), (by show _ = _; rw [← HLl.out, List.drop_length]; rfl), (by show _ = _; rw [← HLl.out, List.take_length]; simp [val, bas]), hb1, hup0⟩
    case round =>
      obtain ⟨k, e, t, o, rfl, he3, hes, hts, HTk, hown, hdo, hk3, H9, HGd, HV, hbk, hup⟩ := hrel
      have hsz := hup.size
      have c1 := hbk.cell (i := 0) rfl
      have c2 := hbk.cell (i := 1) rfl
      have f1 := hbk.frozen 0
      have f2 := hbk.frozen 1
      have q1 := hbk.two (.bool false) (.slice none 0 0)
      by_cases hgo : 0 < e
      · by_cases h9 : 9 ≤ e
        · obtain ⟨a, rfl⟩ : ∃ a, e = a + 9 := ⟨e - 9, by omega⟩
          have hcv := HTk.out
          have hx9 : ∀ i, i ≤ (a + 9) → digsB ((L.take i).drop a) = true → dvf 0 ((L.take i).drop a) < 1000000000 := fun i hi h => dvf_blk9 h (by omega)
          have HX9 := hide hx9
          clear hx9 hcv
          go_wp2
          go_loop [8, 9] (fun xv iv => ∃ i x : Nat, iv = .int .i64 i ∧ a ≤ i ∧ i ≤ (a + 9) ∧ xv = .int .u32 x ∧ x < 1000000000 ∧ Hid (x = dvf 0 ((L.take i).drop a)) ∧ Hid (digsB ((L.take i).drop a) = true)) (fun _ iv => (a + 9) - (intOf iv).toNat)
          case atStart => exact ⟨a, 0, by go_num, by omega, by omega, rfl, by omega, (by show _ = _; rw [List.drop_eq_nil_of_le (by rw [List.length_take]; omega)]; rfl), (by show _ = _; rw [List.drop_eq_nil_of_le (by rw [List.length_take]; omega)]; rfl)⟩
          case round =>
            obtain ⟨i, x, rfl, hai, hie, rfl, hx, HX, HG⟩ := hrel
            by_cases hin : i < (a + 9)
            · obtain ⟨b, Hb⟩ : ∃ b, Hid (b = L.getD i 0) := ⟨_, rfl⟩
              have Hb' : Hid (b = (by_ t).getD i 0) := by show _ = _; rw [HTk.out, getD_take hin]; exact Hb.out
              have hix : ∀ W : World, (Instr.index 9 (.string t) (.int .i64 (i : Int))).run Tryd.prog W = .ok (.int .u8 (b : Int)) W := fun W => ix_str t i b (by omega) Hb' W
              have hb256 : b < 256 := by rw [Hb'.out]; exact byte_lt t i
              have hiL : i < L.length := by rw [HLl.out]; omega
              by_cases hd : 48 ≤ b ∧ b ≤ 57
              · have HG2 : Hid (digsB ((L.take (i + 1)).drop a) = true) := by show _ = _; rw [blk_snoc hai hiL, digsB_append, HG.out, ← Hb.out, digsB_one hd.1 hd.2]; rfl
                have HX2 : Hid (10 * x + (b - 48) = dvf 0 ((L.take (i + 1)).drop a)) := by show _ = _; rw [blk_snoc hai hiL, dvf_append, ← HX.out, ← Hb.out, Nat.mul_comm]; rfl
                have hx2 : 10 * x + (b - 48) < 1000000000 := by rw [HX2.out]; exact HX9.out _ (by omega) HG2.out
                obtain ⟨h1, h2⟩ := hd
                clear hiL
                go_wp2
                go_round
                case rel => exact ⟨_, .int .u32 ((10 * x + (b - 48) : Nat) : Int), .int .i64 ((i + 1 : Nat) : Int), ⟨i + 1, rfl, by omega, by omega, 10 * x + (b - 48), rfl, hx2, HX2, HG2⟩, rfl, by go_num, by go_num⟩
                case measure => simp [intOf] <;> omega
              · have HF : Hid (digsB L = false) := digsB_bad hiL (by rw [← Hb.out]; exact hd)
                by_cases h1 : 48 ≤ b
                · have h2 : 57 < b := by omega
                  clear hd hiL
                  go_wp2
                  refine bodyPost_ret (v := .tuple #[.agg #[.bool false, .slice none 0 0], .int .i64 2]) (by simp [results, Tryd.results14, go_sem, q1.1, q1.2]) rfl ⟨_, 2, rfl, hup.two (Nat.le_refl _) _ _, .inr ⟨rfl, fun h => by rw [HF.out] at h; exact absurd h.1 (by decide), IsInt.zero _ _⟩⟩
                · have h2 : b < 48 := by omega
                  clear hd hiL
                  go_wp2
                  refine bodyPost_ret (v := .tuple #[.agg #[.bool false, .slice none 0 0], .int .i64 2]) (by simp [results, Tryd.results14, go_sem, q1.1, q1.2]) rfl ⟨_, 2, rfl, hup.two (Nat.le_refl _) _ _, .inr ⟨rfl, fun h => by rw [HF.out] at h; exact absurd h.1 (by decide), IsInt.zero _ _⟩⟩
            · obtain rfl : i = (a + 9) := by omega
              go_wp2_with (at_builtin; refine wp_app rfl _ _ rfl (w.heap.size + 1) _ k o rfl (show Own _ _ _ _ _ from World.ownsRow.alloc hown _) (some ⟨wr.heap.size, 0, none⟩) 1 1 [x] rfl rfl (lim_one _ _ _ rfl) (by omega) (by have := hup.size; simp; omega) ?_; intro v1 w1 hown1 hgrow1)
              have hbk' := (hbk.alloc _).grown hgrow1 (fun e => by have := (hown.lt _ e.symm).1; omega)
              have hup' := (hup.alloc _).grown hgrow1 (fun q hq => by have := (hown.lt q hq).1; omega)
              refine ⟨⟨k + 1, a, t.extract 0 a, o ++ [x], rfl, by omega, by omega, by rw [ByteArray.size_extract]; omega, by_take HTk.out (by omega), hown1, dig_snoc hdo hx, by have := H9.out (by omega); omega, fun _ => by have := H9.out (by omega); omega, digsB_ends HG.out HGd.out (by omega), ?_, hbk', hup'⟩, by show (t.extract 0 a).size < t.size; rw [ByteArray.size_extract]; omega⟩
              exact blk_step hown.len (by rw [dvf_block L a (a + 9) (by omega) (by rw [HLl.out]; omega), ← HX.out, show a + 9 - a = 9 by omega]) HV.out
        · skip
          have hcv := HTk.out
          have hx9 : ∀ i, i ≤ e → digsB ((L.take i).drop 0) = true → dvf 0 ((L.take i).drop 0) < 1000000000 := fun i hi h => dvf_blk9 h (by omega)
          have HX9 := hide hx9
          clear hx9 hcv
          go_wp2
          go_loop [8, 9] (fun xv iv => ∃ i x : Nat, iv = .int .i64 i ∧ 0 ≤ i ∧ i ≤ e ∧ xv = .int .u32 x ∧ x < 1000000000 ∧ Hid (x = dvf 0 ((L.take i).drop 0)) ∧ Hid (digsB ((L.take i).drop 0) = true)) (fun _ iv => e - (intOf iv).toNat)
          case atStart => exact ⟨0, 0, by go_num, by omega, by omega, rfl, by omega, (by show _ = _; rw [List.drop_eq_nil_of_le (by rw [List.length_take]; omega)]; rfl), (by show _ = _; rw [List.drop_eq_nil_of_le (by rw [List.length_take]; omega)]; rfl)⟩
          case round =>
            obtain ⟨i, x, rfl, hai, hie, rfl, hx, HX, HG⟩ := hrel
            by_cases hin : i < e
            · obtain ⟨b, Hb⟩ : ∃ b, Hid (b = L.getD i 0) := ⟨_, rfl⟩
              have Hb' : Hid (b = (by_ t).getD i 0) := by show _ = _; rw [HTk.out, getD_take hin]; exact Hb.out
              have hix : ∀ W : World, (Instr.index 9 (.string t) (.int .i64 (i : Int))).run Tryd.prog W = .ok (.int .u8 (b : Int)) W := fun W => ix_str t i b (by omega) Hb' W
              have hb256 : b < 256 := by rw [Hb'.out]; exact byte_lt t i
              have hiL : i < L.length := by rw [HLl.out]; omega
              by_cases hd : 48 ≤ b ∧ b ≤ 57
              · have HG2 : Hid (digsB ((L.take (i + 1)).drop 0) = true) := by show _ = _; rw [blk_snoc hai hiL, digsB_append, HG.out, ← Hb.out, digsB_one hd.1 hd.2]; rfl
                have HX2 : Hid (10 * x + (b - 48) = dvf 0 ((L.take (i + 1)).drop 0)) := by show _ = _; rw [blk_snoc hai hiL, dvf_append, ← HX.out, ← Hb.out, Nat.mul_comm]; rfl
                have hx2 : 10 * x + (b - 48) < 1000000000 := by rw [HX2.out]; exact HX9.out _ (by omega) HG2.out
                obtain ⟨h1, h2⟩ := hd
                clear hiL
                go_wp2
                go_round
                case rel => exact ⟨_, .int .u32 ((10 * x + (b - 48) : Nat) : Int), .int .i64 ((i + 1 : Nat) : Int), ⟨i + 1, rfl, by omega, 10 * x + (b - 48), rfl, hx2, HX2, HG2⟩, rfl, by go_num, by go_num⟩
                case measure => simp [intOf] <;> omega
              · have HF : Hid (digsB L = false) := digsB_bad hiL (by rw [← Hb.out]; exact hd)
                by_cases h1 : 48 ≤ b
                · have h2 : 57 < b := by omega
                  clear hd hiL
                  go_wp2
                  refine bodyPost_ret (v := .tuple #[.agg #[.bool false, .slice none 0 0], .int .i64 2]) (by simp [results, Tryd.results14, go_sem, q1.1, q1.2]) rfl ⟨_, 2, rfl, hup.two (Nat.le_refl _) _ _, .inr ⟨rfl, fun h => by rw [HF.out] at h; exact absurd h.1 (by decide), IsInt.zero _ _⟩⟩
                · have h2 : b < 48 := by omega
                  clear hd hiL
                  go_wp2
                  refine bodyPost_ret (v := .tuple #[.agg #[.bool false, .slice none 0 0], .int .i64 2]) (by simp [results, Tryd.results14, go_sem, q1.1, q1.2]) rfl ⟨_, 2, rfl, hup.two (Nat.le_refl _) _ _, .inr ⟨rfl, fun h => by rw [HF.out] at h; exact absurd h.1 (by decide), IsInt.zero _ _⟩⟩
            · obtain rfl : i = e := by omega
              go_wp2_with (at_builtin; refine wp_app rfl _ _ rfl (w.heap.size + 1) _ k o rfl (show Own _ _ _ _ _ from World.ownsRow.alloc hown _) (some ⟨wr.heap.size, 0, none⟩) 1 1 [x] rfl rfl (lim_one _ _ _ rfl) (by omega) (by have := hup.size; simp; omega) ?_; intro v1 w1 hown1 hgrow1)
              have hbk' := (hbk.alloc _).grown hgrow1 (fun e => by have := (hown.lt _ e.symm).1; omega)
              have hup' := (hup.alloc _).grown hgrow1 (fun q hq => by have := (hown.lt q hq).1; omega)
              refine ⟨⟨k + 1, 0, ByteArray.empty, o ++ [x], rfl, by omega, by omega, rfl, rfl, hown1, dig_snoc hdo hx, by have := H9.out (by omega); omega, fun h => by omega, digsB_ends (a := 0) HG.out HGd.out (by omega), ?_, hbk', hup'⟩, by show 0 < t.size; omega⟩
              exact blk_step (A := 0) hown.len (by rw [HX.out, List.drop_zero]; omega) HV.out
      · obtain rfl : e = 0 := by omega
        obtain ⟨A1, c1, rfl, hc1, hlim, hnew⟩ := hown.lim
        have HN : Hid (val o = dvf 0 L) := by
          have h1 := HV.out
          rw [List.take_zero] at h1
          show _ = _; rw [← h1]; simp [dvf]
        have hdL : digsB L = true := by have h1 := HGd.out; rwa [List.drop_zero] at h1
        have hlen3 : L.length ≤ 300 := by rw [HLl.out]; exact h300
        have htop := dvf_top hdL hlen3
        have hM := make_any false A1 c1 o wr hlim hdo k hown.len.symm (by omega)
        rw [HN.out] at hM
        obtain ⟨z, hz⟩ : ∃ z, z = sgn false (dvf 0 L) := ⟨_, rfl⟩
        have hzt : z.natAbs < top300 := by rw [hz, sgn_abs]; exact htop
        rw [← hz] at hM
        rw [show RetIntE wr z = fun e w' => ∃ v, e = .returned (.tuple #[v, .int .i64 0]) ∧ IsInt wr.heap.size w' v z ∧ Up wr w' by unfold RetIntE; rw [(bnd_ok hzt).1, (bnd_ok hzt).2]] at hM
        have HZ := hide hz
        have HDL := hide hdL
        have HZT := hide hzt
        clear hz hdL hzt htop hown hnew
        go_wp2_with fail
        refine hM.mono ?_
        rintro e w2 ⟨v2, rfl, hv2, hup2⟩
        obtain ⟨s2, A2, n2, k2, rfl, Hs2, Hn2, hl2, hc2, hnew2⟩ := id hv2
        go_wp2_with fail
        have hup3 : Up w (w2.alloc (.cells #[.bool s2, .slice A2 n2 k2] 25)) := (hup.trans hup2).alloc _
        have hv3 := hv2.up ((Up.refl w2).alloc (.cells #[.bool s2, .slice A2 n2 k2] 25))
        have hbk3 := (hbk.up hup2).alloc (.cells #[.bool s2, .slice A2 n2 k2] 25)
        have hbn : Bk (w2.alloc (.cells #[.bool s2, .slice A2 n2 k2] 25)) w2.heap.size 25 #[.bool s2, .slice A2 n2 k2] := Bk.new w2 _ _
        obtain ⟨S, hS⟩ : ∃ S, S = bs (itxt z) := ⟨_, rfl⟩
        have hF := rformat_any _ _ z _ hv3 HZT.out
        rw [← hS] at hF
        refine hF.mono ?_
        rintro e w4 ⟨rfl, hup4⟩
        have hbk4 := hbk3.up hup4
        have hbn4 := hbn.up hup4
        have d1 := hbk4.cell (i := 0) rfl
        have d2 := hbk4.cell (i := 1) rfl
        have d3 := hbk4.frozen 0
        have d4 := hbk4.frozen 1
        have d5 := hbn4.cell (i := 0) rfl
        have d6 := hbn4.cell (i := 1) rfl
        have hup5 := hup3.trans hup4
        have q2 := hbk4.two (.bool false) (.slice none 0 0)
        have q3 := hbk4.two (.bool s2) (.slice A2 n2 k2)
        clear hF
        have HS := hide hS
        clear hS
        have hnx : w.heap.size < wr.heap.size := hbk.lt
        have hlF := (hl2.up ((Up.refl w2).alloc (.cells #[.bool s2, .slice A2 n2 k2] 25))).up hup4
        by_cases hSs : S = s
        · have hne : (S.toList == s.toList) = true := by rw [hSs]; simp
          have HSs := hide hSs
          clear hSs
          go_wp2
          have hLs := HLs.out
          subst hLs
          refine bodyPost_ret (v := .tuple #[.agg #[.bool s2, .slice A2 n2 k2], .int .i64 0]) (by simp [results, Tryd.results14, go_sem, q3.1, q3.2]) rfl ⟨_, 0, rfl, hup5.two (Nat.le_refl _) _ _, .inl ⟨rfl, HDL.out, by rw [HLl.out]; exact h0, hlen3, by rw [← HZ.out, ← HS.out]; exact HSs.out, ?_⟩⟩
          rw [← HZ.out]
          exact ⟨s2, A2, n2, k2, rfl, Hs2, Hn2, hlF.two (hnew2.mono (by omega)) _ _, hc2, hnew2.mono (by omega)⟩
        · have hne : (S.toList == s.toList) = false := by
            rw [beq_eq_false_iff_ne]; intro h
            rw [ByteArray.toList_eq, ByteArray.toList_eq] at h
            exact hSs (by obtain ⟨⟨a⟩⟩ := S; obtain ⟨⟨b⟩⟩ := s; simp at h; rw [h])
          have HSs := hide hSs
          clear hSs
          go_wp2
          have hLs := HLs.out
          subst hLs
          exact bodyPost_ret (v := .tuple #[.agg #[.bool false, .slice none 0 0], .int .i64 2]) (by simp [results, Tryd.results14, go_sem, q2.1, q2.2]) rfl ⟨_, 2, rfl, hup5.two (Nat.le_refl _) _ _, .inr ⟨rfl, fun h => HSs.out (by rw [HS.out, HZ.out]; exact h.2.2.2), IsInt.zero _ _⟩⟩
  · go_enter Tryd.func14, Tryd.ntmps14
    go_wp2_with fail
    rw [← Hw0.out]
    go_wp2
    refine bodyPost_ret (v := .tuple #[.agg #[.bool false, .slice none 0 0], .int .i64 2]) (by simp [results, Tryd.results14, go_sem, e1a, e1b]) rfl ⟨_, 2, rfl, hup0, .inr ⟨rfl, fun h => h300 (by rw [← HL.out]; exact h.2.2.1), IsInt.zero _ _⟩⟩
end Go.Proofs.YtijcijdgpeolhaaDoor
/- The reference's Parse behind a sign. -/
namespace Go.Proofs.YtijcijdgpeolhaaDoor
open Go.RowKit

set_option maxRecDepth 1000000 in
set_option maxHeartbeats 4000000 in
theorem rparse_neg (s T : ByteArray) (w : World) (hs : s.size ≤ 1000) (hp : 0 < s.size) (hn : negB s = true) (HT : Hid (T = s.extract 1 s.size)) (h0 : 0 < T.size) : Calls Tryd.prog 14 #[.string s] w (RetP w s true (by_ T)) := by
  obtain ⟨b0, Hb0⟩ : ∃ b, Hid (b = (by_ s).getD 0 0) := ⟨_, rfl⟩
  have hi0 : ∀ W : World, (Instr.index 9 (.string s) (.int .i64 0)).run Tryd.prog W = .ok (.int .u8 (b0 : Int)) W := fun W => ix_str s 0 b0 (by omega) Hb0 W
  have hb256 : b0 < 256 := by rw [Hb0.out]; exact byte_lt s 0
  have e45 : ((b0 : Int) == 45) = true := by
    rw [beq_iff_eq]
    unfold negB at hn
    rw [← Hb0.out, decide_eq_true_eq] at hn; omega
  have hsl : ∀ W : World, (Instr.slice 9 (.string s) (some (.int .i64 1)) none none).run Tryd.prog W = .ok (.string T) W := fun W => by rw [run_slice_string_l W _ _ Tryd.underlying9 .i64 _ (by omega) (by omega), HT.out]; rfl
  have hT1000 : T.size ≤ 1000 := by rw [HT.out, ByteArray.size_extract]; omega
  clear hn
  have HL := hide (by_len T)
  have hzs := str_empty (s := s) (by omega)
  have hz' := str_empty (s := T) (by omega)
  have hE0 : ((T.size : Int) == 0) = false := by rw [beq_eq_false_iff_ne]; omega
  obtain ⟨w0, hw0⟩ : ∃ w0, w0 = (w.alloc (.cells #[.bool false, .slice none 0 0] 25)) := ⟨_, rfl⟩
  have hb1 : Bk w0 (w.heap.size) 25 #[.bool false, .slice none 0 0] := by
    have := Bk.new w 25 #[.bool false, .slice none 0 0]
    rw [hw0]; simpa using this
  have hup0 : Up w w0 := by rw [hw0]; exact (Up.refl w).alloc _
  have hsz0 : w0.heap.size = w.heap.size + 1 := by rw [hw0]; simp
  have Hw0 := hide hw0
  clear hw0
  have e1a := hb1.cell (i := 0) rfl
  have e1b := hb1.cell (i := 1) rfl
  by_cases h300 : T.size ≤ 300
  · go_enter Tryd.func14, Tryd.ntmps14
    go_wp2_with fail
    rw [← Hw0.out]
    go_wp2
    obtain ⟨L, hL⟩ : ∃ L, L = by_ T := ⟨_, rfl⟩
    have HLl : Hid (L.length = T.size) := by show _ = _; rw [hL]; exact HL.out
    have HTs : Hid (by_ T = L.take T.size) := by show _ = _; rw [← HLl.out, List.take_length, hL]
    rw [← hL]
    have HLs := hide hL
    clear hL
    go_loopw [4, 6] (fun tv lv wr => ∃ (k e : Nat) (t : ByteArray) (o : List Nat), tv = .string t ∧ e ≤ 300 ∧ e ≤ T.size ∧ t.size = e ∧ Hid (by_ t = L.take e) ∧ Own wr (w.heap.size + 1) lv k o ∧ Dig o ∧ k ≤ 300 ∧ Hid (0 < e → 9 * k + e = T.size) ∧ Hid (digsB (L.drop e) = true) ∧ Hid (val o + bas k * dvf 0 (L.take e) = dvf 0 L) ∧ Bk wr w.heap.size 25 #[.bool false, .slice none 0 0] ∧ Up w wr) (fun tv _ _ => strSize tv)
    case atStart => exact ⟨0, T.size, T, [], rfl, by omega, by omega, rfl, HTs, Own.nil _ _, (fun x hx => by cases hx), by omega, (fun _ => by omega), (by show _ = _; rw [← HLl.out, List.drop_length]; rfl), (by show _ = _; rw [← HLl.out, List.take_length]; simp [val, bas]), hb1, hup0⟩
    case round =>
      obtain ⟨k, e, t, o, rfl, he3, hes, hts, HTk, hown, hdo, hk3, H9, HGd, HV, hbk, hup⟩ := hrel
      have hsz := hup.size
      have c1 := hbk.cell (i := 0) rfl
      have c2 := hbk.cell (i := 1) rfl
      have f1 := hbk.frozen 0
      have f2 := hbk.frozen 1
      have q1 := hbk.two (.bool false) (.slice none 0 0)
      by_cases hgo : 0 < e
      · by_cases h9 : 9 ≤ e
        · obtain ⟨a, rfl⟩ : ∃ a, e = a + 9 := ⟨e - 9, by omega⟩
          have hcv := HTk.out
          have hx9 : ∀ i, i ≤ (a + 9) → digsB ((L.take i).drop a) = true → dvf 0 ((L.take i).drop a) < 1000000000 := fun i hi h => dvf_blk9 h (by omega)
          have HX9 := hide hx9
          clear hx9 hcv
          go_wp2
          go_loop [8, 9] (fun xv iv => ∃ i x : Nat, iv = .int .i64 i ∧ a ≤ i ∧ i ≤ (a + 9) ∧ xv = .int .u32 x ∧ x < 1000000000 ∧ Hid (x = dvf 0 ((L.take i).drop a)) ∧ Hid (digsB ((L.take i).drop a) = true)) (fun _ iv => (a + 9) - (intOf iv).toNat)
          case atStart => exact ⟨a, 0, by go_num, by omega, by omega, rfl, by omega, (by show _ = _; rw [List.drop_eq_nil_of_le (by rw [List.length_take]; omega)]; rfl), (by show _ = _; rw [List.drop_eq_nil_of_le (by rw [List.length_take]; omega)]; rfl)⟩
          case round =>
            obtain ⟨i, x, rfl, hai, hie, rfl, hx, HX, HG⟩ := hrel
            by_cases hin : i < (a + 9)
            · obtain ⟨b, Hb⟩ : ∃ b, Hid (b = L.getD i 0) := ⟨_, rfl⟩
              have Hb' : Hid (b = (by_ t).getD i 0) := by show _ = _; rw [HTk.out, getD_take hin]; exact Hb.out
              have hix : ∀ W : World, (Instr.index 9 (.string t) (.int .i64 (i : Int))).run Tryd.prog W = .ok (.int .u8 (b : Int)) W := fun W => ix_str t i b (by omega) Hb' W
              have hb256 : b < 256 := by rw [Hb'.out]; exact byte_lt t i
              have hiL : i < L.length := by rw [HLl.out]; omega
              by_cases hd : 48 ≤ b ∧ b ≤ 57
              · have HG2 : Hid (digsB ((L.take (i + 1)).drop a) = true) := by show _ = _; rw [blk_snoc hai hiL, digsB_append, HG.out, ← Hb.out, digsB_one hd.1 hd.2]; rfl
                have HX2 : Hid (10 * x + (b - 48) = dvf 0 ((L.take (i + 1)).drop a)) := by show _ = _; rw [blk_snoc hai hiL, dvf_append, ← HX.out, ← Hb.out, Nat.mul_comm]; rfl
                have hx2 : 10 * x + (b - 48) < 1000000000 := by rw [HX2.out]; exact HX9.out _ (by omega) HG2.out
                obtain ⟨h1, h2⟩ := hd
                clear hiL
                go_wp2
                go_round
                case rel => exact ⟨_, .int .u32 ((10 * x + (b - 48) : Nat) : Int), .int .i64 ((i + 1 : Nat) : Int), ⟨i + 1, rfl, by omega, by omega, 10 * x + (b - 48), rfl, hx2, HX2, HG2⟩, rfl, by go_num, by go_num⟩
                case measure => simp [intOf] <;> omega
              · have HF : Hid (digsB L = false) := digsB_bad hiL (by rw [← Hb.out]; exact hd)
                by_cases h1 : 48 ≤ b
                · have h2 : 57 < b := by omega
                  clear hd hiL
                  go_wp2
                  refine bodyPost_ret (v := .tuple #[.agg #[.bool false, .slice none 0 0], .int .i64 2]) (by simp [results, Tryd.results14, go_sem, q1.1, q1.2]) rfl ⟨_, 2, rfl, hup.two (Nat.le_refl _) _ _, .inr ⟨rfl, fun h => by rw [HF.out] at h; exact absurd h.1 (by decide), IsInt.zero _ _⟩⟩
                · have h2 : b < 48 := by omega
                  clear hd hiL
                  go_wp2
                  refine bodyPost_ret (v := .tuple #[.agg #[.bool false, .slice none 0 0], .int .i64 2]) (by simp [results, Tryd.results14, go_sem, q1.1, q1.2]) rfl ⟨_, 2, rfl, hup.two (Nat.le_refl _) _ _, .inr ⟨rfl, fun h => by rw [HF.out] at h; exact absurd h.1 (by decide), IsInt.zero _ _⟩⟩
            · obtain rfl : i = (a + 9) := by omega
              go_wp2_with (at_builtin; refine wp_app rfl _ _ rfl (w.heap.size + 1) _ k o rfl (show Own _ _ _ _ _ from World.ownsRow.alloc hown _) (some ⟨wr.heap.size, 0, none⟩) 1 1 [x] rfl rfl (lim_one _ _ _ rfl) (by omega) (by have := hup.size; simp; omega) ?_; intro v1 w1 hown1 hgrow1)
              have hbk' := (hbk.alloc _).grown hgrow1 (fun e => by have := (hown.lt _ e.symm).1; omega)
              have hup' := (hup.alloc _).grown hgrow1 (fun q hq => by have := (hown.lt q hq).1; omega)
              refine ⟨⟨k + 1, a, t.extract 0 a, o ++ [x], rfl, by omega, by omega, by rw [ByteArray.size_extract]; omega, by_take HTk.out (by omega), hown1, dig_snoc hdo hx, by have := H9.out (by omega); omega, fun _ => by have := H9.out (by omega); omega, digsB_ends HG.out HGd.out (by omega), ?_, hbk', hup'⟩, by show (t.extract 0 a).size < t.size; rw [ByteArray.size_extract]; omega⟩
              exact blk_step hown.len (by rw [dvf_block L a (a + 9) (by omega) (by rw [HLl.out]; omega), ← HX.out, show a + 9 - a = 9 by omega]) HV.out
        · skip
          have hcv := HTk.out
          have hx9 : ∀ i, i ≤ e → digsB ((L.take i).drop 0) = true → dvf 0 ((L.take i).drop 0) < 1000000000 := fun i hi h => dvf_blk9 h (by omega)
          have HX9 := hide hx9
          clear hx9 hcv
          go_wp2
          go_loop [8, 9] (fun xv iv => ∃ i x : Nat, iv = .int .i64 i ∧ 0 ≤ i ∧ i ≤ e ∧ xv = .int .u32 x ∧ x < 1000000000 ∧ Hid (x = dvf 0 ((L.take i).drop 0)) ∧ Hid (digsB ((L.take i).drop 0) = true)) (fun _ iv => e - (intOf iv).toNat)
          case atStart => exact ⟨0, 0, by go_num, by omega, by omega, rfl, by omega, (by show _ = _; rw [List.drop_eq_nil_of_le (by rw [List.length_take]; omega)]; rfl), (by show _ = _; rw [List.drop_eq_nil_of_le (by rw [List.length_take]; omega)]; rfl)⟩
          case round =>
            obtain ⟨i, x, rfl, hai, hie, rfl, hx, HX, HG⟩ := hrel
            by_cases hin : i < e
            · obtain ⟨b, Hb⟩ : ∃ b, Hid (b = L.getD i 0) := ⟨_, rfl⟩
              have Hb' : Hid (b = (by_ t).getD i 0) := by show _ = _; rw [HTk.out, getD_take hin]; exact Hb.out
              have hix : ∀ W : World, (Instr.index 9 (.string t) (.int .i64 (i : Int))).run Tryd.prog W = .ok (.int .u8 (b : Int)) W := fun W => ix_str t i b (by omega) Hb' W
              have hb256 : b < 256 := by rw [Hb'.out]; exact byte_lt t i
              have hiL : i < L.length := by rw [HLl.out]; omega
              by_cases hd : 48 ≤ b ∧ b ≤ 57
              · have HG2 : Hid (digsB ((L.take (i + 1)).drop 0) = true) := by show _ = _; rw [blk_snoc hai hiL, digsB_append, HG.out, ← Hb.out, digsB_one hd.1 hd.2]; rfl
                have HX2 : Hid (10 * x + (b - 48) = dvf 0 ((L.take (i + 1)).drop 0)) := by show _ = _; rw [blk_snoc hai hiL, dvf_append, ← HX.out, ← Hb.out, Nat.mul_comm]; rfl
                have hx2 : 10 * x + (b - 48) < 1000000000 := by rw [HX2.out]; exact HX9.out _ (by omega) HG2.out
                obtain ⟨h1, h2⟩ := hd
                clear hiL
                go_wp2
                go_round
                case rel => exact ⟨_, .int .u32 ((10 * x + (b - 48) : Nat) : Int), .int .i64 ((i + 1 : Nat) : Int), ⟨i + 1, rfl, by omega, 10 * x + (b - 48), rfl, hx2, HX2, HG2⟩, rfl, by go_num, by go_num⟩
                case measure => simp [intOf] <;> omega
              · have HF : Hid (digsB L = false) := digsB_bad hiL (by rw [← Hb.out]; exact hd)
                by_cases h1 : 48 ≤ b
                · have h2 : 57 < b := by omega
                  clear hd hiL
                  go_wp2
                  refine bodyPost_ret (v := .tuple #[.agg #[.bool false, .slice none 0 0], .int .i64 2]) (by simp [results, Tryd.results14, go_sem, q1.1, q1.2]) rfl ⟨_, 2, rfl, hup.two (Nat.le_refl _) _ _, .inr ⟨rfl, fun h => by rw [HF.out] at h; exact absurd h.1 (by decide), IsInt.zero _ _⟩⟩
                · have h2 : b < 48 := by omega
                  clear hd hiL
                  go_wp2
                  refine bodyPost_ret (v := .tuple #[.agg #[.bool false, .slice none 0 0], .int .i64 2]) (by simp [results, Tryd.results14, go_sem, q1.1, q1.2]) rfl ⟨_, 2, rfl, hup.two (Nat.le_refl _) _ _, .inr ⟨rfl, fun h => by rw [HF.out] at h; exact absurd h.1 (by decide), IsInt.zero _ _⟩⟩
            · obtain rfl : i = e := by omega
              go_wp2_with (at_builtin; refine wp_app rfl _ _ rfl (w.heap.size + 1) _ k o rfl (show Own _ _ _ _ _ from World.ownsRow.alloc hown _) (some ⟨wr.heap.size, 0, none⟩) 1 1 [x] rfl rfl (lim_one _ _ _ rfl) (by omega) (by have := hup.size; simp; omega) ?_; intro v1 w1 hown1 hgrow1)
              have hbk' := (hbk.alloc _).grown hgrow1 (fun e => by have := (hown.lt _ e.symm).1; omega)
              have hup' := (hup.alloc _).grown hgrow1 (fun q hq => by have := (hown.lt q hq).1; omega)
              refine ⟨⟨k + 1, 0, ByteArray.empty, o ++ [x], rfl, by omega, by omega, rfl, rfl, hown1, dig_snoc hdo hx, by have := H9.out (by omega); omega, fun h => by omega, digsB_ends (a := 0) HG.out HGd.out (by omega), ?_, hbk', hup'⟩, by show 0 < t.size; omega⟩
              exact blk_step (A := 0) hown.len (by rw [HX.out, List.drop_zero]; omega) HV.out
      · obtain rfl : e = 0 := by omega
        obtain ⟨A1, c1, rfl, hc1, hlim, hnew⟩ := hown.lim
        have HN : Hid (val o = dvf 0 L) := by
          have h1 := HV.out
          rw [List.take_zero] at h1
          show _ = _; rw [← h1]; simp [dvf]
        have hdL : digsB L = true := by have h1 := HGd.out; rwa [List.drop_zero] at h1
        have hlen3 : L.length ≤ 300 := by rw [HLl.out]; exact h300
        have htop := dvf_top hdL hlen3
        have hM := make_any true A1 c1 o wr hlim hdo k hown.len.symm (by omega)
        rw [HN.out] at hM
        obtain ⟨z, hz⟩ : ∃ z, z = sgn true (dvf 0 L) := ⟨_, rfl⟩
        have hzt : z.natAbs < top300 := by rw [hz, sgn_abs]; exact htop
        rw [← hz] at hM
        rw [show RetIntE wr z = fun e w' => ∃ v, e = .returned (.tuple #[v, .int .i64 0]) ∧ IsInt wr.heap.size w' v z ∧ Up wr w' by unfold RetIntE; rw [(bnd_ok hzt).1, (bnd_ok hzt).2]] at hM
        have HZ := hide hz
        have HDL := hide hdL
        have HZT := hide hzt
        clear hz hdL hzt htop hown hnew
        go_wp2_with fail
        refine hM.mono ?_
        rintro e w2 ⟨v2, rfl, hv2, hup2⟩
        obtain ⟨s2, A2, n2, k2, rfl, Hs2, Hn2, hl2, hc2, hnew2⟩ := id hv2
        go_wp2_with fail
        have hup3 : Up w (w2.alloc (.cells #[.bool s2, .slice A2 n2 k2] 25)) := (hup.trans hup2).alloc _
        have hv3 := hv2.up ((Up.refl w2).alloc (.cells #[.bool s2, .slice A2 n2 k2] 25))
        have hbk3 := (hbk.up hup2).alloc (.cells #[.bool s2, .slice A2 n2 k2] 25)
        have hbn : Bk (w2.alloc (.cells #[.bool s2, .slice A2 n2 k2] 25)) w2.heap.size 25 #[.bool s2, .slice A2 n2 k2] := Bk.new w2 _ _
        obtain ⟨S, hS⟩ : ∃ S, S = bs (itxt z) := ⟨_, rfl⟩
        have hF := rformat_any _ _ z _ hv3 HZT.out
        rw [← hS] at hF
        refine hF.mono ?_
        rintro e w4 ⟨rfl, hup4⟩
        have hbk4 := hbk3.up hup4
        have hbn4 := hbn.up hup4
        have d1 := hbk4.cell (i := 0) rfl
        have d2 := hbk4.cell (i := 1) rfl
        have d3 := hbk4.frozen 0
        have d4 := hbk4.frozen 1
        have d5 := hbn4.cell (i := 0) rfl
        have d6 := hbn4.cell (i := 1) rfl
        have hup5 := hup3.trans hup4
        have q2 := hbk4.two (.bool false) (.slice none 0 0)
        have q3 := hbk4.two (.bool s2) (.slice A2 n2 k2)
        clear hF
        have HS := hide hS
        clear hS
        have hnx : w.heap.size < wr.heap.size := hbk.lt
        have hlF := (hl2.up ((Up.refl w2).alloc (.cells #[.bool s2, .slice A2 n2 k2] 25))).up hup4
        by_cases hSs : S = s
        · have hne : (S.toList == s.toList) = true := by rw [hSs]; simp
          have HSs := hide hSs
          clear hSs
          go_wp2
          have hLs := HLs.out
          subst hLs
          refine bodyPost_ret (v := .tuple #[.agg #[.bool s2, .slice A2 n2 k2], .int .i64 0]) (by simp [results, Tryd.results14, go_sem, q3.1, q3.2]) rfl ⟨_, 0, rfl, hup5.two (Nat.le_refl _) _ _, .inl ⟨rfl, HDL.out, by rw [HLl.out]; exact h0, hlen3, by rw [← HZ.out, ← HS.out]; exact HSs.out, ?_⟩⟩
          rw [← HZ.out]
          exact ⟨s2, A2, n2, k2, rfl, Hs2, Hn2, hlF.two (hnew2.mono (by omega)) _ _, hc2, hnew2.mono (by omega)⟩
        · have hne : (S.toList == s.toList) = false := by
            rw [beq_eq_false_iff_ne]; intro h
            rw [ByteArray.toList_eq, ByteArray.toList_eq] at h
            exact hSs (by obtain ⟨⟨a⟩⟩ := S; obtain ⟨⟨b⟩⟩ := s; simp at h; rw [h])
          have HSs := hide hSs
          clear hSs
          go_wp2
          have hLs := HLs.out
          subst hLs
          exact bodyPost_ret (v := .tuple #[.agg #[.bool false, .slice none 0 0], .int .i64 2]) (by simp [results, Tryd.results14, go_sem, q2.1, q2.2]) rfl ⟨_, 2, rfl, hup5.two (Nat.le_refl _) _ _, .inr ⟨rfl, fun h => HSs.out (by rw [HS.out, HZ.out]; exact h.2.2.2), IsInt.zero _ _⟩⟩
  · go_enter Tryd.func14, Tryd.ntmps14
    go_wp2_with fail
    rw [← Hw0.out]
    go_wp2
    refine bodyPost_ret (v := .tuple #[.agg #[.bool false, .slice none 0 0], .int .i64 2]) (by simp [results, Tryd.results14, go_sem, e1a, e1b]) rfl ⟨_, 2, rfl, hup0, .inr ⟨rfl, fun h => h300 (by rw [← HL.out]; exact h.2.2.1), IsInt.zero _ _⟩⟩
end Go.Proofs.YtijcijdgpeolhaaDoor
/- Parse, of both sides, of every text of at most 1000 bytes. -/
namespace Go.Proofs.YtijcijdgpeolhaaDoor
open Go.RowKit

/-- A text is that of a valid integer. -/
def okS (s : ByteArray) : Bool := (s.toList == [48]) || natB (by_ (cutS s))
/-- The integer with a text. -/
def valS (s : ByteArray) : Int := sgn (negB s) (dvf 0 (by_ (cutS s)))
/-- What Parse returns. -/
def RetQ (w : World) (s : ByteArray) (e : Ending) (w' : World) : Prop :=
  ∃ v E, e = .returned (.tuple #[v, .int .i64 E]) ∧ Up w w' ∧ ((okS s = true ∧ E = 0 ∧ IsInt w.heap.size w' v (valS s)) ∨ (okS s = false ∧ E = 2 ∧ IsInt w.heap.size w' v 0))
theorem list_by {s : ByteArray} {l : List UInt8} : (s.toList == l) = decide (by_ s = l.map UInt8.toNat) := by
  rw [ByteArray.toList_eq, Bool.eq_iff_iff, beq_iff_eq, decide_eq_true_eq]
  unfold by_
  constructor
  · intro h; rw [h]
  · intro h
    have := congrArg (List.map UInt8.ofNat) h
    rw [List.map_map, List.map_map, show (UInt8.ofNat ∘ UInt8.toNat) = id by funext b; simp, List.map_id, List.map_id] at this
    exact this
theorem is_zero {s : ByteArray} (h : (s.toList == [48]) = true) : s = ⟨#[48]⟩ := by
  rw [list_by, decide_eq_true_eq] at h
  exact by_inj h
/-- A text of digits without a zero ahead is that of its number. -/
theorem txt_dvf {L : List Nat} (hd : digsB L = true) (h0 : L.getD 0 0 ≠ 48) (hl : 0 < L.length) : txt (dvf 0 L) = L := by
  have key : ∀ k, k ≤ L.length → dg k (dvf 0 (L.take k)) = L.take k := by
    intro k
    induction k with
    | zero => intro _; rfl
    | succ k ih =>
      intro h
      have hx : 48 ≤ L.getD k 0 ∧ L.getD k 0 ≤ 57 := by
        have := (List.all_eq_true.1 hd) (L[k]'(by omega)) (List.getElem_mem _)
        rw [List.getD, List.getElem?_eq_getElem (by omega)]
        simpa using this
      have h1 : L.take (k + 1) = L.take k ++ [L.getD k 0] := by rw [List.take_add_one, List.getElem?_eq_getElem (by omega)]; simp [List.getD, show k < L.length by omega]
      rw [dvf_step (by omega), h1]
      generalize L.getD k 0 = x at hx
      show dg k ((dvf 0 (L.take k) * 10 + (x - 48)) / 10) ++ [48 + (dvf 0 (L.take k) * 10 + (x - 48)) % 10] = _
      rw [show (dvf 0 (L.take k) * 10 + (x - 48)) / 10 = dvf 0 (L.take k) by omega, show 48 + (dvf 0 (L.take k) * 10 + (x - 48)) % 10 = x by omega, ih (by omega)]
  have hlen : dgt (dvf 0 L) = L.length := by
    have h1 := dgt_le.2 (dvf_lt L hd)
    rcases Nat.lt_or_ge (dgt (dvf 0 L)) L.length with h2 | h2
    · exfalso
      obtain ⟨x, l, rfl⟩ : ∃ x l, L = x :: l := by cases L with
        | nil => cases hl
        | cons x l => exact ⟨x, l, rfl⟩
      have h3 : dvf 0 (x :: l) < 10 ^ l.length := dgt_le.1 (by simp at h2; omega)
      have h4 : dvf 0 (x :: l) = (x - 48) * 10 ^ l.length + dvf 0 l := by
        show dvf (0 * 10 + (x - 48)) l = _
        rw [dvf_lin]; congr 1; rw [Nat.zero_mul, Nat.zero_add]
      have hx : 48 ≤ x ∧ x ≤ 57 := by have := (List.all_eq_true.1 hd) x (by simp); simpa using this
      have h5 : x ≠ 48 := by simpa using h0
      have h6 : 1 * 10 ^ l.length ≤ (x - 48) * 10 ^ l.length := Nat.mul_le_mul (by omega) (Nat.le_refl _)
      omega
    · omega
  unfold txt
  have h9 := key L.length (Nat.le_refl _)
  rw [List.take_length] at h9
  rw [hlen, h9]
theorem nat_of {L : List Nat} (h : natB L = true) : digsB L = true ∧ 0 < L.length ∧ L.length ≤ 300 ∧ txt (dvf 0 L) = L ∧ 0 < dvf 0 L := by
  obtain ⟨h1, h2, h3, h4⟩ := natB_out h
  exact ⟨h4, h1, h3, txt_dvf h4 h2 h1, dvf_pos h4 h2 h1⟩
theorem nat_in {L : List Nat} (hd : digsB L = true) (h0 : 0 < L.length) (h3 : L.length ≤ 300) (ht : txt (dvf 0 L) = L) (hz : dvf 0 L ≠ 0) : natB L = true := by
  have := txt_first hz
  rw [ht] at this
  unfold natB
  rw [decide_eq_true h0, decide_eq_true this, decide_eq_true h3, hd]; rfl
theorem itxt_lt {z : Int} : ∀ x ∈ itxt z, x < 256 := by
  intro x hx
  unfold itxt at hx
  split at hx
  · simp at hx; omega
  · split at hx
    · rcases List.mem_cons.1 hx with h | h
      · omega
      · have := dg_mem h; omega
    · have := dg_mem hx; omega
theorem itxt_pos {n : Nat} (h : n ≠ 0) : itxt (sgn false n) = txt n := by
  unfold itxt sgn
  rw [if_neg (by simp; omega)]
  simp
theorem itxt_neg {n : Nat} (h : n ≠ 0) : itxt (sgn true n) = 45 :: txt n := by
  unfold itxt sgn
  simp only [if_true]
  rw [if_neg (by omega), if_pos (by omega)]
  simp
/-- The text of no integer: what RetP's second case says. -/
theorem okS_pos {s : ByteArray} (hn : negB s = false) : okS s = true ↔ (digsB (by_ s) = true ∧ 0 < (by_ s).length ∧ (by_ s).length ≤ 300 ∧ bs (itxt (sgn false (dvf 0 (by_ s)))) = s) := by
  have hc : cutS s = s := by unfold cutS; rw [hn]; rfl
  unfold okS
  rw [hc, Bool.or_eq_true]
  constructor
  · rintro (h | h)
    · rw [is_zero h]; decide
    · obtain ⟨h1, h2, h3, h4, h5⟩ := nat_of h
      refine ⟨h1, h2, h3, ?_⟩
      rw [itxt_pos (by omega), h4, bs_by]
  · rintro ⟨h1, h2, h3, h4⟩
    have h5 : by_ s = itxt (sgn false (dvf 0 (by_ s))) := by have := congrArg by_ h4; rw [by_bs _ itxt_lt] at this; exact this.symm
    by_cases hz : dvf 0 (by_ s) = 0
    · left
      rw [hz] at h5
      rw [list_by, decide_eq_true_eq, h5]; rfl
    · right
      rw [itxt_pos hz] at h5
      exact nat_in h1 h2 h3 h5.symm hz
theorem by_behind {s T : ByteArray} (hn : negB s = true) (hT : T = s.extract 1 s.size) : by_ s = 45 :: by_ T := by
  rw [hT, by_ext2, ← by_len, List.take_length]
  unfold negB at hn
  rw [decide_eq_true_eq] at hn
  cases h : by_ s with
  | nil => rw [h] at hn; cases hn
  | cons x l => rw [h] at hn; simp at hn; rw [hn]; rfl
theorem okS_neg {s T : ByteArray} (hn : negB s = true) (hT : T = s.extract 1 s.size) : okS s = true ↔ (digsB (by_ T) = true ∧ 0 < (by_ T).length ∧ (by_ T).length ≤ 300 ∧ bs (itxt (sgn true (dvf 0 (by_ T)))) = s) := by
  have hc : cutS s = T := by unfold cutS; rw [hn, hT]; rfl
  have hs := by_behind hn hT
  have h0 : (s.toList == [48]) = false := by
    rw [list_by, hs, decide_eq_false_iff_not]; intro h; injection h with h; cases h
  unfold okS
  rw [hc, h0, Bool.false_or]
  constructor
  · intro h
    obtain ⟨h1, h2, h3, h4, h5⟩ := nat_of h
    refine ⟨h1, h2, h3, ?_⟩
    rw [itxt_neg (by omega), h4, ← hs, bs_by]
  · rintro ⟨h1, h2, h3, h4⟩
    have h5 : by_ s = itxt (sgn true (dvf 0 (by_ T))) := by have := congrArg by_ h4; rw [by_bs _ itxt_lt] at this; exact this.symm
    by_cases hz : dvf 0 (by_ T) = 0
    · rw [hz, hs] at h5
      have : itxt (sgn true 0) = [48] := rfl
      rw [this] at h5; injection h5 with h5; cases h5
    · rw [itxt_neg hz, hs] at h5
      injection h5 with _ h6
      exact nat_in h1 h2 h3 h6.symm hz
end Go.Proofs.YtijcijdgpeolhaaDoor
/- Parse, of both sides, of every text of at most 1000 bytes. -/
namespace Go.Proofs.YtijcijdgpeolhaaDoor
open Go.RowKit

set_option maxRecDepth 100000 in
theorem rparse_none (w : World) : Calls Tryd.prog 14 #[.string ⟨#[]⟩] w (RetNo w) := by
  go_enter Tryd.func14, Tryd.ntmps14
  go_wp2
  refine bodyPost_ret (v := .tuple #[.agg #[.bool false, .slice none 0 0], .int .i64 2]) (by simp [results, Tryd.results14, go_sem]) rfl ⟨_, rfl, IsInt.zero _ _, (Up.refl w).alloc _⟩
set_option maxRecDepth 100000 in
theorem rparse_dash (w : World) : Calls Tryd.prog 14 #[.string ⟨#[45]⟩] w (RetNo w) := by
  go_enter Tryd.func14, Tryd.ntmps14
  go_wp2
  refine bodyPost_ret (v := .tuple #[.agg #[.bool false, .slice none 0 0], .int .i64 2]) (by simp [results, Tryd.results14, go_sem]) rfl ⟨_, rfl, IsInt.zero _ _, (Up.refl w).alloc _⟩
theorem parse_zero (w : World) : Calls Tryd.prog 9 #[.string ⟨#[48]⟩] w (RetQ w ⟨#[48]⟩) := by
  go_enter Tryd.func9, Tryd.ntmps9
  go_wp2
  refine bodyPost_ret (v := .tuple #[.agg #[.bool false, .slice none 0 0], .int .i64 0]) (by simp [results, Tryd.results9, go_sem]) rfl ⟨_, 0, rfl, (Up.refl w).alloc _, .inl ⟨by decide +kernel, rfl, IsInt.zero _ _⟩⟩
theorem RetQ.of_no {w : World} {s : ByteArray} (h : okS s = false) {e : Ending} {w' : World} (hr : RetNo w e w') : RetQ w s e w' := by
  obtain ⟨v, rfl, h1, h2⟩ := hr
  exact ⟨v, 2, rfl, h2, .inr ⟨h, rfl, h1⟩⟩
/-- The program's Parse. -/
theorem parse_any (s : ByteArray) (w : World) (hs : s.size ≤ 1000) : Calls Tryd.prog 9 #[.string s] w (RetQ w s) := by
  by_cases hz : (s.toList == [48]) = true
  · rw [is_zero hz]; exact parse_zero w
  · have hz' : (s.toList == [48]) = false := by simpa using hz
    by_cases hn : natB (by_ (cutS s)) = true
    · refine (parse_yes s w hs hz' hn).mono ?_
      rintro e w' ⟨v, rfl, h1, h2⟩
      exact ⟨v, 0, rfl, h2, .inl ⟨by unfold okS; rw [hn, Bool.or_true], rfl, h1⟩⟩
    · have hn' : natB (by_ (cutS s)) = false := by simpa using hn
      exact (parse_no s w hs hz' hn').mono fun e w' h => RetQ.of_no (by unfold okS; rw [hz', hn']; rfl) h
/-- The reference's Parse. -/
theorem rparse_any (s : ByteArray) (w : World) (hs : s.size ≤ 1000) : Calls Tryd.prog 14 #[.string s] w (RetQ w s) := by
  cases hn : negB s with
  | false =>
    have hok := okS_pos hn
    by_cases h0 : s.size = 0
    · obtain rfl : s = ⟨#[]⟩ := by_inj (by rw [show by_ ⟨#[]⟩ = [] from rfl]; exact List.length_eq_zero_iff.1 (by rw [by_len]; exact h0))
      exact (rparse_none w).mono fun e w' h => RetQ.of_no (by decide +kernel) h
    · refine (rparse_pos s w hs (by omega) hn).mono ?_
      rintro e w' ⟨v, E, rfl, hup, ⟨rfl, h1, h2, h3, h4, h5⟩ | ⟨rfl, h1, h2⟩⟩
      · refine ⟨v, 0, rfl, hup, .inl ⟨hok.2 ⟨h1, h2, h3, h4⟩, rfl, ?_⟩⟩
        unfold valS cutS; rw [hn]; exact h5
      · exact ⟨v, 2, rfl, hup, .inr ⟨Bool.eq_false_iff.2 fun h => h1 (hok.1 h), rfl, h2⟩⟩
  | true =>
    obtain ⟨T, hT⟩ : ∃ T, T = s.extract 1 s.size := ⟨_, rfl⟩
    have hok := okS_neg hn hT
    have hby := by_behind hn hT
    have hpos : 0 < s.size := by rw [← by_len, hby]; simp
    by_cases h0 : T.size = 0
    · obtain rfl : s = ⟨#[45]⟩ := by_inj (by rw [hby, List.length_eq_zero_iff.1 (show (by_ T).length = 0 by rw [by_len]; exact h0)]; rfl)
      exact (rparse_dash w).mono fun e w' h => RetQ.of_no (by decide +kernel) h
    · refine (rparse_neg s T w hs hpos hn hT (by omega)).mono ?_
      rintro e w' ⟨v, E, rfl, hup, ⟨rfl, h1, h2, h3, h4, h5⟩ | ⟨rfl, h1, h2⟩⟩
      · refine ⟨v, 0, rfl, hup, .inl ⟨hok.2 ⟨h1, h2, h3, h4⟩, rfl, ?_⟩⟩
        have hc : cutS s = T := by unfold cutS; rw [hn, hT]; rfl
        unfold valS; rw [hc, hn]; exact h5
      · exact ⟨v, 2, rfl, hup, .inr ⟨Bool.eq_false_iff.2 fun h => h1 (hok.1 h), rfl, h2⟩⟩
/-- The text of an integer is a text, of that integer. -/
theorem okS_itxt {z : Int} (hz : z.natAbs < top300) : okS (bs (itxt z)) = true ∧ valS (bs (itxt z)) = z := by
  have hby : by_ (bs (itxt z)) = itxt z := by_bs _ itxt_lt
  have hnat : ∀ n, n ≠ 0 → n < top300 → natB (txt n) = true := fun n h0 hn => by
    refine nat_in (digsB_dg _ _) ?_ ?_ (by rw [dvf_txt]) (by rw [dvf_txt]; exact h0)
    · rw [txt_len, dgt_pos h0]; omega
    · rw [txt_len]
      have hl : 0 < (lim n).length := Nat.pos_of_ne_zero fun h => h0 (lim_len_zero.1 h)
      have h1 := (digs_lim n).2 hn
      have h2 := (dgt_top (N := n) rfl hl).1
      unfold digs at h1
      rw [if_neg (by omega)] at h1
      omega
  by_cases h0 : z = 0
  · subst h0; exact ⟨by decide +kernel, by decide +kernel⟩
  · rcases Int.lt_or_gt_of_ne h0 with h | h
    · obtain ⟨n, rfl⟩ : ∃ n : Nat, z = sgn true n := ⟨z.natAbs, by unfold sgn; simp; omega⟩
      rw [sgn_abs] at hz
      have hn0 : n ≠ 0 := by rintro rfl; exact h0 rfl
      rw [itxt_neg hn0] at hby ⊢
      have hneg : negB (bs (45 :: txt n)) = true := by unfold negB; rw [hby]; rfl
      have hT : by_ (cutS (bs (45 :: txt n))) = txt n := by
        have := by_behind hneg rfl
        rw [hby] at this
        injection this with _ h1
        unfold cutS; rw [hneg]; exact h1.symm
      unfold okS valS
      rw [hT, hneg, dvf_txt, hnat n hn0 hz]
      exact ⟨by simp, rfl⟩
    · obtain ⟨n, rfl⟩ : ∃ n : Nat, z = sgn false n := ⟨z.natAbs, by unfold sgn; simp; omega⟩
      rw [sgn_abs] at hz
      have hn0 : n ≠ 0 := by rintro rfl; exact h0 rfl
      rw [itxt_pos hn0] at hby ⊢
      have hneg : negB (bs (txt n)) = false := by
        unfold negB; rw [hby, decide_eq_false_iff_not]
        obtain ⟨k, hk⟩ : ∃ k, dgt n = k + 1 := ⟨dgt n - 1, by have := dgt_pos hn0; omega⟩
        unfold txt; rw [hk, dg_front]
        show ¬ 48 + n / 10 ^ k % 10 = 45
        omega
      unfold okS valS
      have hc : cutS (bs (txt n)) = bs (txt n) := by unfold cutS; rw [hneg]; rfl
      rw [hc, hby, hneg, dvf_txt, hnat n hn0 hz]
      exact ⟨by simp, rfl⟩
end Go.Proofs.YtijcijdgpeolhaaDoor
