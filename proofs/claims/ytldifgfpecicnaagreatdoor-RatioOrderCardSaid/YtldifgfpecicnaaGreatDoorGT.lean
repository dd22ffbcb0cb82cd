import Derived.Test.YtldifgfpecicnaaGreatDoorGB
import Derived.Laws.DeepStrings4
import Derived.Lib.ConvBytes
import Derived.Test.YtldifgfpecicnaaGreatDoorGA
import Derived.Test.YtldifgfpecicnaaGreatDoorG1
import Derived.Lib.ItoaNum
/- Texts of integers: strings as bytes; isNatural; the sign ahead of a text. -/
namespace Go.Proofs.YtldifgfpecicnaaGreatDoor
open Go.RowKit

/-- The bytes of a string. -/
def by_ (s : ByteArray) : List Nat := s.data.toList.map UInt8.toNat
theorem by_len (s : ByteArray) : (by_ s).length = s.size := by unfold by_; rw [List.length_map, Array.length_toList]; rfl
theorem by_lt (s : ByteArray) : ∀ x ∈ by_ s, x < 256 := by
  intro x hx
  simp only [by_, List.mem_map] at hx
  obtain ⟨b, _, rfl⟩ := hx
  exact UInt8.toNat_lt b
theorem by_get (s : ByteArray) (k : Nat) (h : k < s.size) : (s[k]'h).toNat = (by_ s).getD k 0 := by
  have h2 : k < s.data.toList.length := by rw [Array.length_toList]; exact h
  have e : (s[k]'h) = s.data.toList[k]'h2 := rfl
  rw [e]
  unfold by_
  rw [List.getD, List.getElem?_map, List.getElem?_eq_getElem h2]
  rfl
theorem byte_lt (s : ByteArray) (k : Nat) : (by_ s).getD k 0 < 256 := by
  by_cases h : k < (by_ s).length
  · exact by_lt s _ (by rw [List.getD, List.getElem?_eq_getElem h]; exact List.getElem_mem h)
  · rw [List.getD, List.getElem?_eq_none (by omega)]; decide
theorem ix_str (s : ByteArray) (k b : Nat) (hk : k < s.size) (Hb : Hid (b = (by_ s).getD k 0)) (W : World) : (Instr.index 9 (.string s) (.int .i64 (k : Int))).run Tryz.prog W = .ok (.int .u8 (b : Int)) W := by
  rw [run_index_string W 9 s .i64 k Tryz.underlying9, dif_pos (by omega), Hb.out]
  simp only [Int.toNat_natCast]
  rw [by_get s k hk]
theorem str_empty {s : ByteArray} (h : s.size ≠ 0) : s.toList.isEmpty = false := by
  rw [ByteArray.toList_eq]
  obtain ⟨⟨l⟩⟩ := s
  cases l with
  | nil => exact absurd rfl h
  | cons a l => rfl
/-- The bytes are digits. -/
def digsB (l : List Nat) : Bool := l.all fun x => decide (48 ≤ x) && decide (x ≤ 57)
/-- The bytes are those of a positive number that is not too long. -/
def natB (l : List Nat) : Bool := decide (0 < l.length) && (decide (l.getD 0 0 ≠ 48) && (decide (l.length ≤ 300) && digsB l))
theorem digsB_take {l : List Nat} {k : Nat} (hk : k < l.length) : digsB (l.take (k + 1)) = (digsB (l.take k) && (decide (48 ≤ l.getD k 0) && decide (l.getD k 0 ≤ 57))) := by
  have h1 : l.take (k + 1) = l.take k ++ [l.getD k 0] := by rw [List.take_add_one, List.getElem?_eq_getElem hk]; simp [List.getD, hk]
  unfold digsB
  rw [h1, List.all_append]; simp
theorem digsB_bad {l : List Nat} {k : Nat} (hk : k < l.length) (h : ¬ (48 ≤ l.getD k 0 ∧ l.getD k 0 ≤ 57)) : digsB l = false := by
  cases e : digsB l with
  | false => rfl
  | true =>
    unfold digsB at e
    have h1 := List.all_eq_true.1 e (l.getD k 0) (by rw [List.getD, List.getElem?_eq_getElem hk]; exact List.getElem_mem hk)
    simp only [Bool.and_eq_true, decide_eq_true_eq] at h1
    exact absurd h1 h
set_option maxRecDepth 1000000 in
set_option maxHeartbeats 2000000 in
theorem natural_any (s : ByteArray) (w : World) (hs : s.size ≤ 1000000) : Calls Tryz.prog 99 #[.string s] w fun e w' => e = .returned (.bool (natB (by_ s))) ∧ w = w' := by
  have HB := hide (by_len s)
  by_cases hz : s.size = 0
  · obtain rfl : s = ⟨#[]⟩ := by
      obtain ⟨⟨l⟩⟩ := s
      cases l with
      | nil => rfl
      | cons a l => cases hz
    go_enter Tryz.func99, Tryz.ntmps99
    go_wp2
    go_ret
    exact ⟨rfl, rfl⟩
  · have hz' := str_empty hz
    obtain ⟨b0, hb0⟩ : ∃ b, Hid (b = (by_ s).getD 0 0) := ⟨_, rfl⟩
    have hi0 : ∀ W : World, (Instr.index 9 (.string s) (.int .i64 0)).run Tryz.prog W = .ok (.int .u8 (b0 : Int)) W := fun W => ix_str s 0 b0 (by omega) hb0 W
    have hlt0 : b0 < 256 := by rw [hb0.out]; exact byte_lt s 0
    by_cases h48 : b0 = 48
    · have HN : Hid (natB (by_ s) = false) := by
        show _ = _
        unfold natB
        rw [← hb0.out, h48]; simp
      have e48 : ((b0 : Int) == 48) = true := by rw [beq_iff_eq]; omega
      clear h48
      go_enter Tryz.func99, Tryz.ntmps99
      go_wp2
      go_ret
      exact ⟨by rw [HN.out] <;> rfl, rfl⟩
    · have e48 : ((b0 : Int) == 48) = false := by rw [beq_eq_false_iff_ne]; omega
      by_cases h300 : s.size ≤ 300
      · have HN : Hid (natB (by_ s) = digsB (by_ s)) := by
          show _ = _
          unfold natB
          rw [← hb0.out, HB.out, decide_eq_true (show 0 < s.size by omega), decide_eq_true (show b0 ≠ 48 from h48), decide_eq_true h300]; rfl
        clear h48
        go_enter Tryz.func99, Tryz.ntmps99
        go_wp2
        go_loop [18] (fun i => ∃ k : Nat, k ≤ s.size ∧ i = .int .i64 k ∧ Hid (digsB ((by_ s).take k) = true)) (fun i => s.size - (intOf i).toNat)
        case atStart => exact ⟨0, by omega, rfl, rfl⟩
        case round =>
          obtain ⟨k, hk, rfl, HD⟩ := hrel
          by_cases hgo : k < s.size
          · obtain ⟨b, Hb⟩ : ∃ b, Hid (b = (by_ s).getD k 0) := ⟨_, rfl⟩
            have hix : ∀ W : World, (Instr.index 9 (.string s) (.int .i64 (k : Int))).run Tryz.prog W = .ok (.int .u8 (b : Int)) W := fun W => ix_str s k b hgo Hb W
            have hb256 : b < 256 := by rw [Hb.out]; exact byte_lt s k
            by_cases hd : 48 ≤ b ∧ b ≤ 57
            · have HD2 : Hid (digsB ((by_ s).take (k + 1)) = true) := by
                show _ = _
                rw [digsB_take (by rw [HB.out]; exact hgo), HD.out, ← Hb.out, decide_eq_true hd.1, decide_eq_true hd.2]; rfl
              obtain ⟨h1, h2⟩ := hd
              go_wp2
              go_round
              case rel => exact ⟨k + 1, by omega, by go_num, HD2⟩
              case measure => simp [intOf] <;> omega
            · have HF : Hid (digsB (by_ s) = false) := digsB_bad (by rw [HB.out]; exact hgo) (by rw [← Hb.out]; exact hd)
              by_cases h1 : 48 ≤ b
              · have h2 : 57 < b := by omega
                clear hd
                go_wp2
                go_ret
                exact ⟨by rw [HN.out, HF.out] <;> rfl, rfl⟩
              · clear hd
                go_wp2
                go_ret
                exact ⟨by rw [HN.out, HF.out] <;> rfl, rfl⟩
          · obtain rfl : k = s.size := by omega
            have HT : Hid (digsB (by_ s) = true) := by
              have h := HD.out
              rw [List.take_of_length_le (by rw [HB.out]; exact Nat.le_refl _)] at h
              exact h
            go_wp2
            go_ret
            exact ⟨by rw [HN.out, HT.out] <;> rfl, rfl⟩
      · have HN : Hid (natB (by_ s) = false) := by
          show _ = _
          unfold natB
          rw [HB.out, decide_eq_false h300]; simp
        clear h48
        go_enter Tryz.func99, Tryz.ntmps99
        go_wp2
        go_ret
        exact ⟨by rw [HN.out] <;> rfl, rfl⟩
end Go.Proofs.YtldifgfpecicnaaGreatDoor
/- Texts of integers: the sign ahead of a text (CutPrefix at "-"). -/
namespace Go.Proofs.YtldifgfpecicnaaGreatDoor
open Go.RowKit

/-- The text begins with a minus sign. -/
def negB (s : ByteArray) : Bool := decide ((by_ s).getD 0 0 = 45)
theorem neg_eq (s : ByteArray) (h : 0 < s.size) : ((s.extract 0 1).toList == [45]) = negB s := by
  obtain ⟨⟨l⟩⟩ := s
  cases l with
  | nil => cases h
  | cons a l =>
    rw [ByteArray.toList_eq, ByteArray.extract_mk]
    unfold negB by_
    simp
    rw [Bool.eq_iff_iff]
    simp only [beq_iff_eq, decide_eq_true_eq]
    constructor
    · intro e; rw [e]; rfl
    · intro e; exact UInt8.toNat_inj.1 (by rw [e]; rfl)
set_option maxRecDepth 1000000 in
set_option maxHeartbeats 2000000 in
theorem hasp_any (s : ByteArray) (w : World) (hs : s.size ≤ 1000000) : Calls Tryz.prog 129 #[.string s, .string ⟨#[45]⟩] w fun e w' => e = .returned (.bool (negB s)) ∧ w = w' := by
  by_cases hz : s.size = 0
  · obtain rfl : s = ⟨#[]⟩ := by
      obtain ⟨⟨l⟩⟩ := s
      cases l with
      | nil => rfl
      | cons a l => cases hz
    go_enter Tryz.func129, Tryz.ntmps129
    go_wp2
    go_ret
    exact ⟨by kernel_rfl, rfl⟩
  · have hq := neg_eq s (by omega)
    have hsl : ∀ W : World, (Instr.slice 9 (.string s) none (some (.int .i64 1)) none).run Tryz.prog W = .ok (.string (s.extract 0 1)) W := fun W => by rw [run_slice_string_h W _ _ Tryz.underlying9 .i64 _ (by omega) (by omega)]; rfl
    have hsz : (⟨#[45]⟩ : ByteArray).size = 1 := rfl
    have hp : 1 ≤ s.size := by omega
    obtain ⟨B, hB⟩ : ∃ B, B = negB s := ⟨_, rfl⟩
    rw [← hB] at hq
    rw [← hB]
    clear hB
    go_enter Tryz.func129, Tryz.ntmps129
    go_wp2
    go_ret
    exact ⟨rfl, rfl⟩
/-- What is left behind the sign. -/
def cutS (s : ByteArray) : ByteArray := if negB s then s.extract 1 s.size else s
set_option maxRecDepth 1000000 in
set_option maxHeartbeats 2000000 in
theorem cutl_any (s : ByteArray) (w : World) (hs : s.size ≤ 1000000) : Calls Tryz.prog 126 #[.string s, .string ⟨#[45]⟩] w fun e w' => e = .returned (.tuple #[.string (cutS s), .bool (negB s)]) ∧ w = w' := by
  have hcall := fun w => hasp_any s w hs
  cases hn : negB s with
  | false =>
    have HC : Hid (cutS s = s) := by show cutS s = s; unfold cutS; rw [hn]; rfl
    rw [hn] at hcall
    go_enter Tryz.func126, Tryz.ntmps126
    go_wp2_with (go_at_call 129; refine (hcall _).mono ?_; rintro e w' ⟨rfl, rfl⟩)
    go_ret2
    exact ⟨by rw [HC.out] <;> rfl, rfl⟩
  | true =>
    have hpos : 1 ≤ s.size := by
      rcases Nat.eq_zero_or_pos s.size with h | h
      · exfalso
        obtain ⟨⟨l⟩⟩ := s
        cases l with
        | nil => cases hn
        | cons a l => cases h
      · exact h
    have HC : Hid (cutS s = s.extract 1 s.size) := by show cutS s = _; unfold cutS; rw [hn]; rfl
    rw [hn] at hcall
    have hsl : ∀ W : World, (Instr.slice 9 (.string s) (some (.int .i64 1)) none none).run Tryz.prog W = .ok (.string (s.extract 1 s.size)) W := fun W => by rw [run_slice_string_l W _ _ Tryz.underlying9 .i64 _ (by omega) (by omega)]; rfl
    go_enter Tryz.func126, Tryz.ntmps126
    go_wp2_with (go_at_call 129; refine (hcall _).mono ?_; rintro e w' ⟨rfl, rfl⟩)
    go_ret2
    exact ⟨by rw [HC.out] <;> rfl, rfl⟩
set_option maxRecDepth 100000 in
set_option maxHeartbeats 1000000 in
theorem cut_any (s : ByteArray) (w : World) (hs : s.size ≤ 1000000) : Calls Tryz.prog 98 #[.string s, .string ⟨#[45]⟩] w fun e w' => e = .returned (.tuple #[.string (cutS s), .bool (negB s)]) ∧ w = w' := by
  go_enter Tryz.func98, Tryz.ntmps98
  go_wp2_with (go_at_call 126; refine (cutl_any s _ hs).mono ?_; rintro e w' ⟨rfl, rfl⟩)
  go_ret2
  exact ⟨rfl, rfl⟩
end Go.Proofs.YtldifgfpecicnaaGreatDoor
/- Texts of integers: the value of digits, and blocks. -/
namespace Go.Proofs.YtldifgfpecicnaaGreatDoor
open Go.RowKit

/-- The number of some digits, behind a number. -/
def dvf (a : Nat) (l : List Nat) : Nat := l.foldl (fun a x => a * 10 + (x - 48)) a
theorem dvf_append (a : Nat) (l m : List Nat) : dvf a (l ++ m) = dvf (dvf a l) m := by unfold dvf; rw [List.foldl_append]
theorem dvf_lin : ∀ (l : List Nat) (a : Nat), dvf a l = a * 10 ^ l.length + dvf 0 l := by
  intro l
  induction l with
  | nil => intro a; simp [dvf]
  | cons x l ih =>
    intro a
    have h1 : dvf a (x :: l) = dvf (a * 10 + (x - 48)) l := rfl
    have h2 : dvf 0 (x :: l) = dvf (0 * 10 + (x - 48)) l := rfl
    rw [h1, h2, ih, ih (0 * 10 + (x - 48)), List.length_cons, Nat.pow_succ]
    rw [Nat.add_mul, Nat.add_mul, Nat.zero_mul, Nat.zero_add, Nat.mul_assoc, Nat.mul_comm 10, Nat.add_assoc]
theorem dvf_lt : ∀ (l : List Nat), digsB l = true → dvf 0 l < 10 ^ l.length := by
  intro l
  induction l with
  | nil => intro _; decide
  | cons x l ih =>
    intro h
    unfold digsB at h
    simp only [List.all_cons, Bool.and_eq_true, decide_eq_true_eq] at h
    have h2 := ih h.2
    have h1 : dvf 0 (x :: l) = dvf (0 * 10 + (x - 48)) l := rfl
    rw [h1, dvf_lin, List.length_cons, Nat.pow_succ, Nat.zero_mul, Nat.zero_add]
    have h3 : (x - 48) * 10 ^ l.length ≤ 9 * 10 ^ l.length := Nat.mul_le_mul_right _ (by omega)
    omega
theorem dvf_pos {l : List Nat} (h : digsB l = true) (h0 : l.getD 0 0 ≠ 48) (hl : 0 < l.length) : 0 < dvf 0 l := by
  cases l with
  | nil => cases hl
  | cons x l =>
    unfold digsB at h
    simp only [List.all_cons, Bool.and_eq_true, decide_eq_true_eq] at h
    simp at h0
    have h1 : dvf 0 (x :: l) = dvf (0 * 10 + (x - 48)) l := rfl
    rw [h1, dvf_lin]
    have h2 : 1 * 1 ≤ (0 * 10 + (x - 48)) * 10 ^ l.length := Nat.mul_le_mul (by omega) (Nat.pow_pos (by decide))
    omega
theorem digsB_sub {l m : List Nat} (h : digsB l = true) (hs : ∀ x ∈ m, x ∈ l) : digsB m = true := by
  unfold digsB at h ⊢
  exact List.all_eq_true.2 fun x hx => List.all_eq_true.1 h x (hs x hx)
theorem dvf_step {l : List Nat} {k : Nat} (hk : k < l.length) : dvf 0 (l.take (k + 1)) = dvf 0 (l.take k) * 10 + (l.getD k 0 - 48) := by
  have h1 : l.take (k + 1) = l.take k ++ [l.getD k 0] := by rw [List.take_add_one, List.getElem?_eq_getElem hk]; simp [List.getD, hk]
  rw [h1, dvf_append]; rfl
/-- One block: the digits from a to e. -/
theorem dvf_block (l : List Nat) (a e : Nat) (ha : a ≤ e) (he : e ≤ l.length) : dvf 0 (l.take e) = dvf 0 (l.take a) * 10 ^ (e - a) + dvf 0 ((l.take e).drop a) := by
  have h1 : l.take e = l.take a ++ (l.take e).drop a := by
    have := (List.take_append_drop a (l.take e)).symm
    rw [List.take_take, Nat.min_eq_left ha] at this
    exact this
  conv => lhs; rw [h1]
  rw [dvf_append, dvf_lin, List.length_drop, List.length_take, Nat.min_eq_left he]
theorem up_bytes (w : World) (e : TypeId) (s : ByteArray) : Up w (Lib.bytesWorld w e s) :=
  ⟨rfl, rfl, rfl, by rw [Lib.bytesWorld_size]; omega, fun k hk => Lib.bytesWorld_at_old w e s k hk⟩
theorem bytes_cell (w : World) (e : TypeId) (s : ByteArray) (j : Nat) (hj : j < s.size) : (Lib.bytesWorld w e s).cell? ⟨w.heap.size, j, none⟩ = some (.int .u8 (((by_ s).getD j 0 : Nat) : Int)) := by
  rw [Lib.bytesWorld_cell w e s j hj]
  have h2 : j < s.data.toList.length := by rw [Array.length_toList]; exact hj
  unfold by_
  simp only [List.getD, List.getElem?_map, List.getElem?_eq_getElem h2, Option.map_some, Option.getD_some]
end Go.Proofs.YtldifgfpecicnaaGreatDoor
/- Texts of integers: blocks. -/
namespace Go.Proofs.YtldifgfpecicnaaGreatDoor
open Go.RowKit

theorem by_ext2 (s : ByteArray) (i j : Nat) : by_ (s.extract i j) = ((by_ s).take j).drop i := by
  obtain ⟨⟨s⟩⟩ := s
  unfold by_
  rw [ByteArray.extract_mk]
  simp [List.map_take, List.map_drop, List.drop_take]
theorem run_bytes (t : ByteArray) (W : World) : (convert 9 104 (.string t)).run Tryz.prog W = .ok (.slice (some ⟨W.heap.size, 0, none⟩) t.size (grownCap W t.size 0 5)) (Lib.bytesWorld W 5 t) :=
  Lib.run_convert_string_bytes W _ _ 5 t Tryz.underlying9 Tryz.underlying104 Tryz.underlying5
theorem digit_at {l : List Nat} {j b : Nat} (h : digsB l = true) (hj : j < l.length) (Hb : Hid (b = l.getD j 0)) : 48 ≤ b ∧ b ≤ 57 := by
  rw [Hb.out]
  cases e : decide (48 ≤ l.getD j 0 ∧ l.getD j 0 ≤ 57) with
  | true => exact of_decide_eq_true e
  | false => exact absurd (digsB_bad hj (of_decide_eq_false e)) (by rw [h]; simp)
theorem dvf_9 {l : List Nat} {n : Nat} (h : digsB l = true) (hn : n ≤ 9) : dvf 0 (l.take n) < 1000000000 := by
  have h1 := dvf_lt (l.take n) (digsB_sub h (fun x hx => List.mem_of_mem_take hx))
  have h2 : 10 ^ (l.take n).length ≤ 10 ^ 9 := Nat.pow_le_pow_right (by decide) (by rw [List.length_take]; omega)
  have h3 : (10 : Nat) ^ 9 = 1000000000 := by decide
  omega
theorem blk_step {o : List Nat} {k x A B D : Nat} (hlen : o.length = k) (hB : B = A * 1000000000 + x) (hV : val o + bas k * B = D) : val (o ++ [x]) + bas (k + 1) * A = D := by
  rw [val_append, hlen, bas_succ]
  rw [hB, Nat.mul_add] at hV
  have h1 : val [x] = x := by simp [val]
  have h2 : bas k * (A * 1000000000) = 1000000000 * bas k * A := by rw [Nat.mul_comm A, ← Nat.mul_assoc, Nat.mul_comm (bas k)]
  rw [h1]
  omega
set_option maxRecDepth 1000000 in
set_option maxHeartbeats 4000000 in
theorem blocks_any (s : ByteArray) (w : World) (hs : s.size ≤ 300) (hd : digsB (by_ s) = true) (h0 : 0 < s.size → (by_ s).getD 0 0 ≠ 48) : Calls Tryz.prog 100 #[.string s] w (RetLim w (dvf 0 (by_ s))) := by
  have HL := hide (by_len s)
  go_enter Tryz.func100, Tryz.ntmps100
  go_wp2
  go_loopw [3, 4] (fun v ev wr => ∃ (k : Nat) (z : Int) (o : List Nat), ev = .int .i64 z ∧ z ≤ 300 ∧ z ≤ s.size ∧ -9 < z ∧ 9 * (k : Int) + z = s.size ∧ Own wr w.heap.size v k o ∧ Dig o ∧ Hid (val o + bas k * dvf 0 ((by_ s).take z.toNat) = dvf 0 (by_ s)) ∧ Hid (z ≤ 0 → ∀ x, o.getLast? = some x → x ≠ 0) ∧ Up w wr) (fun _ ev _ => (intOf ev).toNat)
  case atStart => exact ⟨0, s.size, [], rfl, by omega, by omega, by omega, by omega, Own.nil _ _, (fun x hx => by cases hx), by show _ = _; rw [Int.toNat_natCast, ← HL.out, List.take_length]; simp [val, bas], (fun _ x hx => by cases hx), Up.refl w⟩
  case round =>
    obtain ⟨k, z, o, rfl, hz3, hzs, hz9, hkz, hown, hdo, HV, HG, hup⟩ := hrel
    have hsz := hup.size
    by_cases hgo : 0 < z
    · obtain ⟨e, rfl⟩ : ∃ e : Nat, z = e := ⟨z.toNat, by omega⟩
      by_cases h9 : 9 < e
      · obtain ⟨a, rfl⟩ : ∃ a, e = a + 9 := ⟨e - 9, by omega⟩
        obtain ⟨t, ht⟩ : ∃ t, t = s.extract a (a + 9) := ⟨_, rfl⟩
        obtain ⟨N, hN⟩ : ∃ N, N = (a + 9) - a := ⟨_, rfl⟩
        have hts : t.size = N := by rw [ht, ByteArray.size_extract]; omega
        have HT : Hid (by_ t = ((by_ s).take (a + 9)).drop a) := by show _ = _; rw [ht, by_ext2 s]
        have hN9 : N ≤ 9 := by omega
        have HN := hide hN
        clear hN
        have hcv := run_bytes t wr
        rw [hts] at hcv
        conv at hcv => lhs; rw [ht]
        have HB := hide (dvf_block (by_ s) a (a + 9) (by omega) (by rw [HL.out]; omega))
        have hdt : digsB (by_ t) = true := digsB_sub hd (fun x hx => by rw [HT.out] at hx; exact List.mem_of_mem_take (List.mem_of_mem_drop hx))
        have HLt := hide (by_len t)
        clear ht
        go_wp2
        obtain ⟨W1, hW1⟩ : ∃ x, x = Lib.bytesWorld wr 5 t := ⟨_, rfl⟩
        have hc1 : ∀ j, j < N → W1.cell? ⟨wr.heap.size, j, none⟩ = some (.int .u8 (((by_ t).getD j 0 : Nat) : Int)) := fun j hj => by rw [hW1]; exact bytes_cell wr _ t j (by omega)
        have hu1 : Up wr W1 := by rw [hW1]; exact up_bytes wr _ t
        rw [← hW1]
        clear hW1 hcv
        have HC := hide hc1
        clear hc1
        go_loop [5, 22] (fun v iv => ∃ j x : Nat, iv = .int .i64 j ∧ j ≤ N ∧ v = .int .u32 x ∧ x < 1000000000 ∧ Hid (x = dvf 0 ((by_ t).take j))) (fun _ iv => N - (intOf iv).toNat)
        case atStart => exact ⟨0, 0, rfl, by omega, rfl, by omega, rfl⟩
        case round =>
          obtain ⟨j, x, rfl, hj, rfl, hx, HX⟩ := hrel
          by_cases hjn : j < N
          · obtain ⟨b, Hb⟩ : ∃ b, Hid (b = (by_ t).getD j 0) := ⟨_, rfl⟩
            have hcell : W1.cell? ⟨wr.heap.size, j, none⟩ = some (.int .u8 (b : Int)) := by rw [HC.out j hjn, ← Hb.out]
            obtain ⟨h1, h2⟩ := digit_at hdt (by rw [HLt.out, hts]; exact hjn) Hb
            have HX2 : Hid (x * 10 + (b - 48) = dvf 0 ((by_ t).take (j + 1))) := by show _ = _; rw [dvf_step (by rw [HLt.out, hts]; exact hjn), ← HX.out, ← Hb.out]
            have hx2 : x * 10 + (b - 48) < 1000000000 := by rw [HX2.out]; exact dvf_9 hdt (by omega)
            go_wp2
            go_round
            case rel => exact ⟨j + 1, x * 10 + (b - 48), by go_num, by omega, by go_num, hx2, HX2⟩
            case measure => simp [intOf] <;> omega
          · obtain rfl : j = N := by omega
            have HXN : Hid (x = dvf 0 (by_ t)) := by show _ = _; rw [HX.out, List.take_of_length_le (by rw [HLt.out, hts]; exact Nat.le_refl _)]
            go_wp2_with (at_builtin; refine wp_app rfl _ _ rfl w.heap.size _ k _ rfl (show Own _ _ _ _ _ from World.ownsRow.alloc (hown.up hu1) _) (some ⟨W1.heap.size, 0, none⟩) 1 1 [x] rfl rfl (lim_one _ _ _ rfl) (by omega) (by have := hu1.size; simp; omega) ?_; intro v1 w1 hown1 hgrow1)
            go_roundw
            case rel =>
              have hB2 : dvf 0 ((by_ s).take (a + 9)) = dvf 0 ((by_ s).take a) * 1000000000 + x := by
                rw [HB.out, HXN.out, HT.out, show a + 9 - a = 9 by omega]
              have hV2 := HV.out
              rw [Int.toNat_natCast] at hV2
              exact ⟨k + 1, (a : Int), o ++ [x], by go_num, by omega, by omega, by omega, by omega, hown1, dig_snoc hdo hx, (by show _ = _; rw [Int.toNat_natCast]; exact blk_step hown.len hB2 hV2), (fun h => by omega), (hup.trans (hu1.alloc _)).grown hgrow1 (fun q hq => (hown.lt q hq).1)⟩
            case measure => simp [intOf] <;> omega
      · skip
        obtain ⟨t, ht⟩ : ∃ t, t = s.extract 0 e := ⟨_, rfl⟩
        obtain ⟨N, hN⟩ : ∃ N, N = e - 0 := ⟨_, rfl⟩
        have hts : t.size = N := by rw [ht, ByteArray.size_extract]; omega
        have HT : Hid (by_ t = ((by_ s).take e).drop 0) := by show _ = _; rw [ht, by_ext2 s]
        have hN9 : N ≤ 9 := by omega
        have HN := hide hN
        clear hN
        have hcv := run_bytes t wr
        rw [hts] at hcv
        conv at hcv => lhs; rw [ht]
        have HB := hide (dvf_block (by_ s) 0 e (by omega) (by rw [HL.out]; omega))
        have hdt : digsB (by_ t) = true := digsB_sub hd (fun x hx => by rw [HT.out] at hx; exact List.mem_of_mem_take (List.mem_of_mem_drop hx))
        have HLt := hide (by_len t)
        clear ht
        go_wp2
        obtain ⟨W1, hW1⟩ : ∃ x, x = Lib.bytesWorld wr 5 t := ⟨_, rfl⟩
        have hc1 : ∀ j, j < N → W1.cell? ⟨wr.heap.size, j, none⟩ = some (.int .u8 (((by_ t).getD j 0 : Nat) : Int)) := fun j hj => by rw [hW1]; exact bytes_cell wr _ t j (by omega)
        have hu1 : Up wr W1 := by rw [hW1]; exact up_bytes wr _ t
        rw [← hW1]
        clear hW1 hcv
        have HC := hide hc1
        clear hc1
        go_loop [5, 22] (fun v iv => ∃ j x : Nat, iv = .int .i64 j ∧ j ≤ N ∧ v = .int .u32 x ∧ x < 1000000000 ∧ Hid (x = dvf 0 ((by_ t).take j))) (fun _ iv => N - (intOf iv).toNat)
        case atStart => exact ⟨0, 0, rfl, by omega, rfl, by omega, rfl⟩
        case round =>
          obtain ⟨j, x, rfl, hj, rfl, hx, HX⟩ := hrel
          by_cases hjn : j < N
          · obtain ⟨b, Hb⟩ : ∃ b, Hid (b = (by_ t).getD j 0) := ⟨_, rfl⟩
            have hcell : W1.cell? ⟨wr.heap.size, j, none⟩ = some (.int .u8 (b : Int)) := by rw [HC.out j hjn, ← Hb.out]
            obtain ⟨h1, h2⟩ := digit_at hdt (by rw [HLt.out, hts]; exact hjn) Hb
            have HX2 : Hid (x * 10 + (b - 48) = dvf 0 ((by_ t).take (j + 1))) := by show _ = _; rw [dvf_step (by rw [HLt.out, hts]; exact hjn), ← HX.out, ← Hb.out]
            have hx2 : x * 10 + (b - 48) < 1000000000 := by rw [HX2.out]; exact dvf_9 hdt (by omega)
            go_wp2
            go_round
            case rel => exact ⟨j + 1, x * 10 + (b - 48), by go_num, by omega, by go_num, hx2, HX2⟩
            case measure => simp [intOf] <;> omega
          · obtain rfl : j = N := by omega
            have HXN : Hid (x = dvf 0 (by_ t)) := by show _ = _; rw [HX.out, List.take_of_length_le (by rw [HLt.out, hts]; exact Nat.le_refl _)]
            go_wp2_with (at_builtin; refine wp_app rfl _ _ rfl w.heap.size _ k _ rfl (show Own _ _ _ _ _ from World.ownsRow.alloc (hown.up hu1) _) (some ⟨W1.heap.size, 0, none⟩) 1 1 [x] rfl rfl (lim_one _ _ _ rfl) (by omega) (by have := hu1.size; simp; omega) ?_; intro v1 w1 hown1 hgrow1)
            go_roundw
            case rel =>
              have hB2 : dvf 0 ((by_ s).take e) = 0 * 1000000000 + x := by
                rw [HB.out, HXN.out, HT.out]; simp [dvf]
              have hV2 := HV.out
              rw [Int.toNat_natCast] at hV2
              have hx0 : x ≠ 0 := by
                have h1 := dvf_pos (l := by_ t) hdt (by rw [HT.out, List.drop_zero]; have := h0 (by omega); simpa [List.getD, show 0 < e by omega] using this) (by rw [HLt.out, hts, HN.out]; omega)
                rw [← HXN.out] at h1
                omega
              refine ⟨k + 1, (e : Int) - 9, o ++ [x], by go_num, by omega, by omega, by omega, by omega, hown1, dig_snoc hdo hx, ?_, ?_, (hup.trans (hu1.alloc _)).grown hgrow1 (fun q hq => (hown.lt q hq).1)⟩
              · show _ = _
                rw [show ((e : Int) - 9).toNat = 0 by omega, List.take_zero]
                exact blk_step hown.len hB2 hV2
              · intro _ y hy
                simp at hy
                rw [← hy]; exact hx0
            case measure => simp [intOf] <;> omega
    · obtain ⟨A', c', rfl, hcc, hlim, hnew⟩ := hown.lim
      have HE : Hid (o = lim (dvf 0 (by_ s))) := by
        show o = _
        have h1 := HV.out
        rw [show z.toNat = 0 by omega, List.take_zero] at h1
        have h2 : val o = dvf 0 (by_ s) := by rw [← h1]; simp [dvf]
        rw [← h2, lim_val hdo (HG.out (by omega))]
      go_wp2
      go_ret
      exact ⟨A', k, c', rfl, by rw [← HE.out]; exact hown.len.symm, by rw [← HE.out]; exact hlim, hcc, hnew, hup⟩
end Go.Proofs.YtldifgfpecicnaaGreatDoor
/- Texts of integers: Parse. -/
namespace Go.Proofs.YtldifgfpecicnaaGreatDoor
open Go.RowKit

theorem cut_size (s : ByteArray) : (cutS s).size ≤ s.size := by
  unfold cutS
  split
  · rw [ByteArray.size_extract]; omega
  · exact Nat.le_refl _
theorem bas_pow (n : Nat) : bas n = 10 ^ (9 * n) := by
  induction n with
  | zero => rfl
  | succ n ih => rw [bas_succ, ih, show 9 * (n + 1) = 9 * n + 9 from rfl, Nat.pow_add, Nat.mul_comm]
theorem pow_top (k n : Nat) (h : k ≤ 3 + 9 * n) : 10 ^ k ≤ 10 ^ 3 * bas n := by
  rw [bas_pow, ← Nat.pow_add]
  exact Nat.pow_le_pow_right (by decide) h
theorem dvf_top {l : List Nat} (h : digsB l = true) (hl : l.length ≤ 300) : dvf 0 l < top300 := by
  have h1 := dvf_lt l h
  have h2 := pow_top l.length 33 (by omega)
  unfold top300
  exact Nat.lt_of_lt_of_le h1 h2
theorem natB_out {l : List Nat} (h : natB l = true) : 0 < l.length ∧ l.getD 0 0 ≠ 48 ∧ l.length ≤ 300 ∧ digsB l = true := by
  unfold natB at h
  simp only [Bool.and_eq_true, decide_eq_true_eq] at h
  exact ⟨h.1, h.2.1, h.2.2.1, h.2.2.2⟩
set_option maxRecDepth 100000 in
set_option maxHeartbeats 1000000 in
theorem parse_no (s : ByteArray) (w : World) (hs : s.size ≤ 1000) (hq : (s.toList == [48]) = false) (hn : natB (by_ (cutS s)) = false) : Calls Tryz.prog 67 #[.string s] w (RetNo w) := by
  have hsz := cut_size s
  have hc1 := fun w => cut_any s w (by omega)
  have hc2 := fun w => natural_any (cutS s) w (by omega)
  rw [hn] at hc2
  go_enter Tryz.func67, Tryz.ntmps67
  go_wp2_with (first | (go_at_call 98; refine (hc1 _).mono ?_; rintro e w' ⟨rfl, rfl⟩) | (go_at_call 99; refine (hc2 _).mono ?_; rintro e w' ⟨rfl, rfl⟩))
  refine bodyPost_ret (v := .tuple #[.agg #[.bool false, .slice none 0 0], .int .i64 2]) (by simp [results, Tryz.results67, go_sem]) rfl ⟨_, rfl, IsInt.zero _ _, (Up.refl w).alloc _⟩
set_option maxRecDepth 100000 in
set_option maxHeartbeats 2000000 in
theorem parse_yes (s : ByteArray) (w : World) (hs : s.size ≤ 1000) (hq : (s.toList == [48]) = false) (hn : natB (by_ (cutS s)) = true) : Calls Tryz.prog 67 #[.string s] w fun e w' => ∃ v, e = .returned (.tuple #[v, .int .i64 0]) ∧ IsInt w.heap.size w' v (sgn (negB s) (dvf 0 (by_ (cutS s)))) ∧ Up w w' := by
  have hsz := cut_size s
  obtain ⟨hl, h48, h300, hd⟩ := natB_out hn
  rw [by_len] at hl h300
  have hpos := dvf_pos hd h48 (by rw [by_len]; exact hl)
  have hc1 := fun w => cut_any s w (by omega)
  have hc2 := fun w => natural_any (cutS s) w (by omega)
  have hc3 := fun w => blocks_any (cutS s) w h300 hd (fun _ => h48)
  rw [hn] at hc2
  obtain ⟨N, hN⟩ : ∃ N, N = dvf 0 (by_ (cutS s)) := ⟨_, rfl⟩
  obtain ⟨b, hb⟩ : ∃ b, b = negB s := ⟨_, rfl⟩
  rw [← hN] at hpos hc3
  rw [← hb] at hc1
  rw [← hN, ← hb]
  have hlim : 0 < (lim N).length := by
    rcases Nat.eq_zero_or_pos (lim N).length with h | h
    · have h1 := val_lim N
      rw [List.length_eq_zero_iff.1 h] at h1
      simp [val] at h1; omega
    · exact h
  have h34 : (lim N).length ≤ 1000000 := by
    have := len_of_top (n := N) (by rw [hN]; exact dvf_top hd (by rw [by_len]; exact h300))
    omega
  clear hN hb hn hd h48
  obtain ⟨w0, hw0⟩ : ∃ w0, w0 = (w.alloc (.cells #[.bool false, .slice none 0 0] 24)) := ⟨_, rfl⟩
  have hb1 : Bk w0 (w.heap.size) 24 #[.bool false, .slice none 0 0] := by
    have := Bk.new w 24 #[.bool false, .slice none 0 0]
    rw [hw0]; simpa using this
  have hup0 : Up w w0 := by rw [hw0]; exact (Up.refl w).alloc _
  have hsz0 : w.heap.size + 1 ≤ w0.heap.size := by rw [hw0]; simp
  have Hw0 := hide hw0
  clear hw0
  have e1a := hb1.cell (i := 0) rfl
  have e1b := hb1.cell (i := 1) rfl
  go_enter Tryz.func67, Tryz.ntmps67
  go_wp2_with fail
  rw [← Hw0.out]
  refine (hc1 _).mono ?_
  rintro e w' ⟨rfl, rfl⟩
  go_wp2_with fail
  refine (hc2 _).mono ?_
  rintro e w' ⟨rfl, rfl⟩
  go_wp2_with fail
  refine (hc3 _).mono ?_
  rintro e w1 ⟨A1, n1, c1, rfl, hn1, hl1, hc1', hnew1, hup1⟩
  go_wp2_with fail
  refine (signed_any b A1 c1 n1 _ (by rw [hn1.out]; exact h34)).mono ?_
  rintro e w2 ⟨rfl, hup2⟩
  have hb5 := (hb1.up hup1).up hup2
  have f1 := hb5.cell (i := 0) rfl
  have f2 := hb5.cell (i := 1) rfl
  have f3 := hb5.frozen 0
  have f4 := hb5.frozen 1
  have hdn : decide (0 < n1) = true := decide_eq_true (by rw [hn1.out]; exact hlim)
  rw [hdn, Bool.and_true]
  have q := hb5.two (.bool b) (.slice A1 n1 c1)
  go_wp2
  refine bodyPost_ret (v := .tuple #[.agg #[.bool b, .slice A1 n1 c1], .int .i64 0]) (by simp [results, Tryz.results67, go_sem, q.1, q.2]) rfl ⟨_, rfl, ⟨b, A1, n1, c1, rfl, ?_, by rw [sgn_abs]; exact hn1, by rw [sgn_abs]; exact (hl1.up hup2).two (hnew1.mono (by omega)) _ _, hc1', hnew1.mono (by omega)⟩, ((hup0.trans hup1).trans hup2).two (by omega) _ _⟩
  exact (sgn_neg (by omega)).symm
end Go.Proofs.YtldifgfpecicnaaGreatDoor
/- Decimal texts: plain numbers. -/
namespace Go.Proofs.YtldifgfpecicnaaGreatDoor
open Go.RowKit

/-- The string of some bytes. -/
def bs (l : List Nat) : ByteArray := ⟨(l.map UInt8.ofNat).toArray⟩
theorem bs_size (l : List Nat) : (bs l).size = l.length := by
  show (l.map UInt8.ofNat).toArray.size = _
  simp
theorem by_bs (l : List Nat) (h : ∀ x ∈ l, x < 256) : by_ (bs l) = l := by
  unfold by_ bs
  simp only [List.map_map]
  conv => rhs; rw [← List.map_id l]
  refine List.map_congr_left fun x hx => ?_
  show (UInt8.ofNat x).toNat = x
  exact UInt8.toNat_ofNat_of_lt' (h x hx)
theorem bs_by (s : ByteArray) : bs (by_ s) = s := by
  unfold by_ bs
  rw [List.map_map]
  have : (UInt8.ofNat ∘ UInt8.toNat) = id := by funext b; simp
  rw [this, List.map_id]
theorem bs_append (a b : List Nat) : bs a ++ bs b = bs (a ++ b) := by
  unfold bs
  rw [ByteArray.mk_append_mk]
  simp
theorem by_inj {s t : ByteArray} (h : by_ s = by_ t) : s = t := by rw [← bs_by s, ← bs_by t, h]

/-- The k lowest decimal digits of N, as bytes, the highest ahead. -/
def dg : Nat → Nat → List Nat
  | 0, _ => []
  | k + 1, N => dg k (N / 10) ++ [48 + N % 10]
theorem dg_len (k N : Nat) : (dg k N).length = k := by
  induction k generalizing N with
  | zero => rfl
  | succ k ih => simp [dg, ih]
theorem dg_front (k N : Nat) : dg (k + 1) N = (48 + N / 10 ^ k % 10) :: dg k N := by
  induction k generalizing N with
  | zero => simp [dg]
  | succ k ih =>
    show dg (k + 1) (N / 10) ++ [48 + N % 10] = _ :: (dg k (N / 10) ++ [48 + N % 10])
    rw [ih, Nat.div_div_eq_div_mul, show 10 * 10 ^ k = 10 ^ (k + 1) by rw [Nat.pow_succ, Nat.mul_comm]]
    rfl
theorem dg_add (a b N : Nat) : dg (a + b) N = dg a (N / 10 ^ b) ++ dg b N := by
  induction b generalizing N with
  | zero => simp [dg]
  | succ b ih =>
    show dg (a + b) (N / 10) ++ [48 + N % 10] = _ ++ (dg b (N / 10) ++ [48 + N % 10])
    rw [ih, Nat.div_div_eq_div_mul, show 10 * 10 ^ b = 10 ^ (b + 1) by rw [Nat.pow_succ, Nat.mul_comm], List.append_assoc]
theorem dg_zero (k : Nat) : dg k 0 = List.replicate k 48 := by
  induction k with
  | zero => rfl
  | succ k ih =>
    show dg k (0 / 10) ++ [48 + 0 % 10] = _
    rw [show 0 / 10 = 0 from rfl, ih, List.replicate_succ']
theorem dg_mem {k N x : Nat} (h : x ∈ dg k N) : 48 ≤ x ∧ x ≤ 57 := by
  induction k generalizing N with
  | zero => simp [dg] at h
  | succ k ih =>
    simp only [dg, List.mem_append, List.mem_singleton] at h
    rcases h with h | h
    · exact ih h
    · omega
theorem dg_block (k x M : Nat) (h : x < 10 ^ k) : dg k (x + 10 ^ k * M) = dg k x := by
  induction k generalizing x M with
  | zero => rfl
  | succ k ih =>
    rw [Nat.pow_succ, Nat.mul_comm] at h
    have h1 : 10 ^ (k + 1) * M = 10 * (10 ^ k * M) := by rw [Nat.pow_succ, Nat.mul_comm (10 ^ k) 10, Nat.mul_assoc]
    show dg k ((x + 10 ^ (k + 1) * M) / 10) ++ [48 + (x + 10 ^ (k + 1) * M) % 10] = dg k (x / 10) ++ [48 + x % 10]
    have e1 : (x + 10 ^ (k + 1) * M) / 10 = x / 10 + 10 ^ k * M := by rw [h1]; omega
    have e2 : (x + 10 ^ (k + 1) * M) % 10 = x % 10 := by rw [h1]; omega
    rw [e1, e2, ih _ _ (by omega)]
/-- The decimal digits of N; none of 0. -/
def txt (N : Nat) : List Nat := dg (dgt N) N
theorem txt_len (N : Nat) : (txt N).length = dgt N := dg_len _ _
theorem dgt_shift (b N : Nat) (h : N / 10 ^ b ≠ 0) : dgt N = dgt (N / 10 ^ b) + b := by
  induction b generalizing N with
  | zero => simp
  | succ b ih =>
    rw [show 10 ^ (b + 1) = 10 * 10 ^ b by rw [Nat.pow_succ, Nat.mul_comm], ← Nat.div_div_eq_div_mul] at h ⊢
    have hN : N ≠ 0 := by rintro rfl; simp at h
    rw [dgt_pos hN, ih _ h]; omega
theorem div_block (k x M : Nat) (h : x < 10 ^ k) : (x + 10 ^ k * M) / 10 ^ k = M := by
  rw [Nat.add_mul_div_left _ _ (Nat.pow_pos (by decide)), Nat.div_eq_of_lt h, Nat.zero_add]
/-- A block of nine digits behind. -/
theorem txt_block (x M : Nat) (hM : M ≠ 0) (h : x < 1000000000) : txt (x + 1000000000 * M) = txt M ++ dg 9 x := by
  have hx : x < 10 ^ 9 := h
  have hd := div_block 9 x M hx
  unfold txt
  rw [show 1000000000 = 10 ^ 9 from rfl, dgt_shift 9 _ (by rw [hd]; exact hM), hd, dg_add, hd, dg_block 9 x M hx]
theorem dg_pad (m k x : Nat) (hm : m ≤ k) (hx : x < 10 ^ m) : dg k x = List.replicate (k - m) 48 ++ dg m x := by
  obtain ⟨a, rfl⟩ : ∃ a, k = a + m := ⟨k - m, by omega⟩
  rw [dg_add, Nat.div_eq_of_lt hx, dg_zero, show a + m - m = a by omega]
theorem dgt_lt (N : Nat) : N < 10 ^ dgt N := dgt_le.1 (Nat.le_refl _)
theorem dgt_ndig {u : Nat} (h : u ≠ 0) : Lib.nDigits u = dgt u := by
  induction u using Nat.strongRecOn with
  | _ u ih =>
    by_cases h1 : u < 10
    · rw [Lib.nDigits_small h1, dgt_pos h, show u / 10 = 0 by omega, dgt_zero]
    · rw [Lib.nDigits_big h1, dgt_pos h, ih (u / 10) (by omega) (by omega)]
theorem dec_dg (u : Nat) : Lib.decDigits u = (dg (Lib.nDigits u) u).map UInt8.ofNat := by
  induction u using Nat.strongRecOn with
  | _ u ih =>
    by_cases h1 : u < 10
    · rw [Lib.decDigits, dif_pos h1, Lib.nDigits_small h1]
      simp [dg, Nat.mod_eq_of_lt h1]
    · rw [Lib.decDigits, dif_neg h1, Lib.nDigits_big h1, ih (u / 10) (by omega)]
      simp [dg]
/-- What FormatUint gives of u. -/
def ubs (u : Nat) : ByteArray := bs (dg (Lib.nDigits u) u)
theorem ubs_dec (u : Nat) : (⟨(Lib.decDigits u).toArray⟩ : ByteArray) = ubs u := by rw [dec_dg]; rfl
theorem ubs_size (u : Nat) : (ubs u).size = Lib.nDigits u := by unfold ubs; rw [bs_size, dg_len]
theorem ndig_9 {u : Nat} (h : u < 1000000000) : 1 ≤ Lib.nDigits u ∧ Lib.nDigits u ≤ 9 := by
  refine ⟨Lib.nDigits_pos u, ?_⟩
  by_cases h0 : u = 0
  · subst h0; rw [Lib.nDigits_small (by decide)]; decide
  · rw [dgt_ndig h0]; exact dgt_le.2 h
theorem dvf_dg (k N : Nat) : dvf 0 (dg k N) = N % 10 ^ k := by
  induction k generalizing N with
  | zero => simp [dg, dvf, Nat.mod_one]
  | succ k ih =>
    show dvf 0 (dg k (N / 10) ++ [48 + N % 10]) = _
    rw [dvf_append, ih, Nat.pow_succ, Nat.mul_comm (10 ^ k) 10, Nat.mod_mul]
    simp [dvf]; omega
theorem dvf_txt (N : Nat) : dvf 0 (txt N) = N := by unfold txt; rw [dvf_dg, Nat.mod_eq_of_lt (dgt_lt N)]
theorem digsB_dg (k N : Nat) : digsB (dg k N) = true := by
  unfold digsB
  rw [List.all_eq_true]
  intro x hx
  have := dg_mem hx
  simp [this.1, this.2]
theorem txt_first {N : Nat} (h : N ≠ 0) : (txt N).getD 0 0 ≠ 48 := by
  obtain ⟨k, hk⟩ : ∃ k, dgt N = k + 1 := ⟨dgt N - 1, by have := dgt_pos h; omega⟩
  unfold txt
  rw [hk, dg_front]
  have h1 : ¬ N < 10 ^ k := fun h2 => by have := dgt_le.2 h2; omega
  have h2 := dgt_lt N
  rw [hk, Nat.pow_succ] at h2
  have h3 : N / 10 ^ k < 10 := Nat.div_lt_of_lt_mul h2
  have h4 : 1 ≤ N / 10 ^ k := (Nat.le_div_iff_mul_le (Nat.pow_pos (by decide))).2 (by omega)
  show 48 + N / 10 ^ k % 10 ≠ 48
  omega
/-- A digit of a number is one of its limb's. -/
theorem limb_digit {l : List Nat} (h : Dig l) (i k : Nat) (hk : k < 9) : val l / 10 ^ (9 * i + k) % 10 = l.getD i 0 / 10 ^ k % 10 := by
  have hdiv : val l / bas i = l.getD i 0 + 1000000000 * (val l / bas (i + 1)) := by
    have h1 := val_take_step l i
    have h2 : val l / bas (i + 1) = val l / bas i / 1000000000 := by rw [bas_succ, Nat.mul_comm, Nat.div_div_eq_div_mul]
    by_cases hi : i < l.length
    · have h3 := val_split l hi
      have h4 : val (l.take i) < bas i := by
        have := val_lt (dig_take h i)
        rwa [List.length_take, Nat.min_eq_left (by omega)] at this
      have h5 : val l / bas i = l.getD i 0 + 1000000000 * val (l.drop (i + 1)) := by
        rw [h3, Nat.add_mul_div_left _ _ (bas_pos i), Nat.div_eq_of_lt h4, Nat.zero_add]
      have h6 := dig_getD h i
      rw [h2, h5]; omega
    · have h3 := val_lt h
      have h4 := bas_mono (show l.length ≤ i by omega)
      have h5 : val l / bas i = 0 := Nat.div_eq_of_lt (by omega)
      rw [h2, h5, List.getD, List.getElem?_eq_none (by omega)]; rfl
  rw [Nat.pow_add, ← Nat.div_div_eq_div_mul, ← bas_pow, hdiv]
  obtain ⟨m, hm⟩ : ∃ m, m + k + 1 = 9 := ⟨8 - k, by omega⟩
  have e : 1000000000 * (val l / bas (i + 1)) = 10 ^ k * (10 * (10 ^ m * (val l / bas (i + 1)))) := by
    rw [show 1000000000 = 10 ^ (m + k + 1) by rw [hm], Nat.pow_succ, Nat.pow_add, ← Nat.mul_assoc, ← Nat.mul_assoc]
    congr 1
    rw [Nat.mul_comm (10 ^ m) (10 ^ k), Nat.mul_assoc, Nat.mul_assoc, Nat.mul_comm (10 ^ m) 10]
  rw [e, Nat.add_mul_div_left _ _ (Nat.pow_pos (by decide))]
  omega
end Go.Proofs.YtldifgfpecicnaaGreatDoor
