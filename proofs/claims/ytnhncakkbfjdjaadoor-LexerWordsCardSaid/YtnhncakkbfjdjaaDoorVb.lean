/- Walks: a character beyond ASCII is no white space. -/
import Derived.Test.YtnhncakkbfjdjaaDoorVa
import Derived.Shelf.Strings.FieldsFuncGrows
import Derived.Laws.RangeAny
namespace Go.Proofs.YtnhncakkbfjdjaaDoor
open Go.RowKit

theorem enc_last (r : Int) (h : 128 ≤ r) (h2 : r ≤ 1114111) : ∃ q, 1 ≤ q ∧ q ≤ 3 ∧ ∃ hq : q < (Utf8.encode r).size, (Utf8.encode r).size = q + 1 ∧ 128 ≤ ((Utf8.encode r)[q]'hq).toNat := by
  obtain ⟨c, Hc⟩ : ∃ c, c = if Utf8.valid r then r.toNat else Utf8.runeError := ⟨_, rfl⟩
  have hc : 128 ≤ c := by
    rw [Hc]
    split
    · omega
    · decide
  have e : Utf8.encode r = if c < 0x80 then ⟨#[UInt8.ofNat c]⟩ else if c < 0x800 then ⟨#[UInt8.ofNat (0xC0 + c / 64), UInt8.ofNat (0x80 + c % 64)]⟩ else if c < 0x10000 then ⟨#[UInt8.ofNat (0xE0 + c / 4096), UInt8.ofNat (0x80 + c / 64 % 64), UInt8.ofNat (0x80 + c % 64)]⟩ else ⟨#[UInt8.ofNat (0xF0 + c / 262144), UInt8.ofNat (0x80 + c / 4096 % 64), UInt8.ofNat (0x80 + c / 64 % 64), UInt8.ofNat (0x80 + c % 64)]⟩ := by
    rw [Hc]; rfl
  have hb : (UInt8.ofNat (0x80 + c % 64)).toNat = 128 + c % 64 := UInt8.toNat_ofNat_of_lt' (show 128 + c % 64 < 256 by omega)
  rw [if_neg (by omega)] at e
  by_cases h1 : c < 0x800
  · rw [if_pos h1] at e
    rw [e]
    exact ⟨1, by omega, by omega, (by decide : 1 < 2), rfl, by show 128 ≤ (UInt8.ofNat (0x80 + c % 64)).toNat; omega⟩
  · rw [if_neg h1] at e
    by_cases h3 : c < 0x10000
    · rw [if_pos h3] at e
      rw [e]
      exact ⟨2, by omega, by omega, (by decide : 2 < 3), rfl, by show 128 ≤ (UInt8.ofNat (0x80 + c % 64)).toNat; omega⟩
    · rw [if_neg h3] at e
      rw [e]
      exact ⟨3, by omega, by omega, (by decide : 3 < 4), rfl, by show 128 ≤ (UInt8.ofNat (0x80 + c % 64)).toNat; omega⟩
theorem idx_none (l : List UInt8) (h : ∀ x ∈ l, x.toNat < 128) (b : UInt8) (hb : 128 ≤ b.toNat) : Lib.indexByte l b = -1 := by
  induction l with
  | nil => rfl
  | cons a l ih =>
    have ha := h a (by simp)
    unfold Lib.indexByte
    rw [if_neg (by rw [beq_iff_eq]; intro e; rw [e] at ha; omega), ih (fun x hx => h x (by simp [hx]))]
    rfl
theorem idxByte_none (t : ByteArray) (ht : ∀ x ∈ t.data.toList, x.toNat < 128) (b : Nat) (hb : 128 ≤ b) (hb2 : b < 256) (w : World) : Calls Tryd.prog 54 #[.string t, .int .u8 (b : Int)] w fun e w' => e = .returned (.int .i64 (-1)) ∧ w' = w := by
  refine (Tryd.strings_IndexByte t (b : Int) w).mono ?_
  rintro e w' ⟨rfl, rfl⟩
  refine ⟨?_, rfl⟩
  rw [idx_none _ ht]
  rw [Int.toNat_natCast]
  have e : (Nat.toUInt8 b).toNat = b := UInt8.toNat_ofNat_of_lt' (show b < 256 from hb2)
  omega
/-- A function that returns an integer. -/
def RetI (w : World) (n : Int) (e : Ending) (w' : World) : Prop := e = .returned (.int .i64 n) ∧ Up w w'
theorem iter_up {w W : World} (h : Up w W) (z : ByteArray) (p : Nat) : Up w (W.iter z p) := h.alloc _
theorem Calls.quiet_add_same {P : Program} {f : FuncId} {args : Array Value} {w : World} {a n : Nat} {v : Value} (h : Calls P f args (w.drewN (a + n)) fun e w' => e = .returned v ∧ w' = w.drewN (a + n)) :
    Calls P f args (w.drewN (a + n)) fun e w'' => e = .returned v ∧ ∃ m, w'' = w.drewN (a + m) := h.mono fun _ _ ⟨he, hm⟩ => ⟨he, n, hm⟩
set_option maxRecDepth 100000 in
set_option maxHeartbeats 4000000 in
theorem indexRune_high (z : ByteArray) (hz : z.size = 4) (hA : ∀ k (h : k < z.size), (z[k]'h).toNat < 128) (r : Int) (h1 : 128 ≤ r) (h2 : r ≤ 1114111) (w : World) : Calls Tryd.prog 60 #[.string z, .int .i32 r] w (RetI w (-1)) := by
  have HA := hide hA
  have HZ := hide hz
  clear hA hz
  have d0 : decide ((0 : Int) ≤ r) = true := decide_eq_true (by omega)
  have d1 : decide (r < 128) = false := decide_eq_false (by omega)
  by_cases hb : r = 65533
  · have e1 : (r == 65533) = true := by rw [hb]; rfl
    clear hb
    go_enter Tryd.func60, Tryd.ntmps60
    go_wp2
    go_loopw [5] (fun _ w' => ∃ pos, pos ≤ 4 ∧ w' = w.iter z pos) (fun _ w' => 4 - w'.iterPos w.heap.size)
    case atStart => exact ⟨0, by omega, rfl⟩
    case round =>
      obtain ⟨pos, hpos, rfl⟩ := hrel
      by_cases hlt : pos < 4
      · have hp : pos < z.size := by rw [HZ.out]; exact hlt
        have hnx : ∀ ty, (Instr.next (.pointer (some ⟨w.heap.size, 0, none⟩)) true ty).run Tryd.prog (w.iter z pos) = _ := fun ty => run_next_ascii w z pos ty hp (HA.out pos hp)
        obtain ⟨c, Hc⟩ : ∃ c, Hid (c = (z[pos]'hp).toNat) := ⟨_, rfl⟩
        have hc : c < 128 := by rw [Hc.out]; exact HA.out pos hp
        rw [← Hc.out] at hnx
        have ec : ((c : Int) == 65533) = false := by rw [beq_eq_false_iff_ne]; omega
        go_wp2
        go_roundw
        case rel => exact ⟨pos + 1, by omega, rfl⟩
        case measure => simp; omega
      · have hp : ¬ pos < z.size := by rw [HZ.out]; exact hlt
        have hnx : ∀ ty, (Instr.next (.pointer (some ⟨w.heap.size, 0, none⟩)) true ty).run Tryd.prog (w.iter z pos) = _ := fun ty => run_next_end w z pos ty hp
        go_wp2
        go_ret
        exact ⟨rfl, iter_up (Up.refl w) z pos⟩
  · have e1 : (r == 65533) = false := by rw [beq_eq_false_iff_ne]; exact hb
    clear hb
    by_cases hv : Lib.validRune r = true
    · have HV := hide hv
      clear hv
      obtain ⟨q, hq1, hq3, hqs, hqz, hqb⟩ := enc_last r h1 h2
      obtain ⟨rs, Hrs⟩ : ∃ rs : ByteArray, rs = Utf8.encode r := ⟨_, rfl⟩
      rw [← Hrs] at hqz
      have hqs' : q < rs.size := by omega
      obtain ⟨b, Hb⟩ : ∃ b, Hid (b = (rs[q]'hqs').toNat) := ⟨_, rfl⟩
      have hb1 : 128 ≤ b := by rw [Hb.out]; simp only [Hrs]; exact hqb
      have hb2 : b < 256 := by rw [Hb.out]; exact UInt8.toNat_lt _
      have hrsb : ((rs[q]'hqs').toNat : Int) = (b : Int) := by rw [Hb.out]
      have henc : Utf8.encode r = rs := Hrs.symm
      clear Hrs hqb hqs
      have hqz' : (rs.size : Int) - 1 = (q : Int) := by omega
      have HQ := hide hqz
      clear hqz
      have hqlt : q < z.size := by rw [HZ.out]; omega
      obtain ⟨a, Ha⟩ : ∃ a, Hid (a = (z[q]'hqlt).toNat) := ⟨_, rfl⟩
      have ha : a < 128 := by rw [Ha.out]; exact HA.out q hqlt
      have hza : ((z[q]'hqlt).toNat : Int) = (a : Int) := by rw [Ha.out]
      have eab : ((a : Int) == (b : Int)) = false := by rw [beq_eq_false_iff_ne]; omega
      have eab' : ((a : Int) != (b : Int)) = true := by unfold bne; rw [eab]; rfl
      have cut : ∀ W : World, (Instr.slice 9 (.string z) (some (.int .i64 ((q : Int) + 1))) none none).run Tryd.prog W = .ok (.string (z.extract (q + 1) z.size)) W := fun W => by
        rw [run_slice_string_l W _ _ Tryd.underlying9 .i64 _ (by omega) (by omega)]
        rfl
      obtain ⟨t, Ht⟩ : ∃ t, Hid (t = z.extract (q + 1) z.size) := ⟨_, rfl⟩
      rw [← Ht.out] at cut
      have hta : Hid (∀ x ∈ t.data.toList, x.toNat < 128) := by
        intro x hx
        rw [Ht.out, ByteArray.data_extract, Array.toList_extract, List.extract_eq_take_drop] at hx
        have hx2 : x ∈ z.data.toList := List.mem_of_mem_drop (List.mem_of_mem_take hx)
        obtain ⟨k, hk, e⟩ := List.mem_iff_getElem.1 hx2
        rw [← e]
        exact HA.out k (by simpa using hk)
      have zlt : decide ((q : Int) < (z.size : Int)) = true := decide_eq_true (by omega)
      go_enter Tryd.func60, Tryd.ntmps60
      go_wp2_with fail
      refine (Tryd.utf8_ValidRune r _).mono ?_
      rw [HV.out]
      rintro e w' ⟨rfl, rfl⟩
      go_wp2
      go_step3
      go_wp2
      go_loopw [9] (fun i wr => i = .int .i64 q ∧ Up w' wr) (fun _ _ => 0)
      case atStart => exact ⟨rfl, Up.refl _⟩
      case round =>
        obtain ⟨rfl, hup⟩ := hrel
        go_wp2
        go_step3
        go_wp2
        go_quiet (fail)
        go_wp2
        go_quiet ((go_at_call 54; exact Calls.quiet_add_same (idxByte_none t hta.out b hb1 hb2 _)))
        go_wp2
        rw [Exit.noGoto_ret]
        first
          | (go_ret; exact ⟨rfl, (hup.drewN _)⟩)
          | (change Exit.noGoto _ _ _ _; rw [Exit.noGoto_ret]; go_ret; exact ⟨rfl, (hup.drewN _)⟩)
          | (simp only [Exit.inBlock]; trace_state; sorry)
    · have HV := hide (Bool.eq_false_iff.2 hv)
      clear hv
      go_enter Tryd.func60, Tryd.ntmps60
      go_wp2_with fail
      refine (Tryd.utf8_ValidRune r _).mono ?_
      rw [HV.out]
      rintro e w' ⟨rfl, rfl⟩
      go_wp2
      go_ret
      exact ⟨rfl, Up.refl _⟩
end Go.Proofs.YtnhncakkbfjdjaaDoor
