import Derived.Test.YtldifgfpecicnaaGreatDoorGT
import Derived.Laws.Runes
import Derived.Test.YtldifgfpecicnaaGreatDoorV1
import Derived.Test.YtldifgfpecicnaaGreatDoorGC
/- The reference's Format. -/
namespace Go.Proofs.YtldifgfpecicnaaGreatDoor
open Go.RowKit

/-- The text of an integer. -/
def itxt (z : Int) : List Nat := if z = 0 then [48] else if z < 0 then 45 :: txt z.natAbs else txt z.natAbs
theorem rune_str0 (d : Nat) (h : d < 10) : Utf8.encode ((48 : Int) + (d : Int)) = bs [48 + d] := by
  have : d = 0 ∨ d = 1 ∨ d = 2 ∨ d = 3 ∨ d = 4 ∨ d = 5 ∨ d = 6 ∨ d = 7 ∨ d = 8 ∨ d = 9 := by omega
  rcases this with rfl | rfl | rfl | rfl | rfl | rfl | rfl | rfl | rfl | rfl <;> decide +kernel
theorem rune_str (x : Nat) : Utf8.encode ((48 : Int) + (x : Int) % 10) = bs [48 + x % 10] := by
  rw [← rune_str0 (x % 10) (by omega)]; rfl
theorem rune_step {N i k x x0 : Nat} (hk : k < 9) (hx0 : x0 = (lim N).getD i 0) (hx : x = x0 / 10 ^ k) : Utf8.encode ((48 : Int) + (x : Int) % 10) ++ bs (dg (9 * i + k) N) = bs (dg (9 * i + (k + 1)) N) := by
  have h := limb_digit (dig_lim N) i k hk
  rw [val_lim, ← hx0, ← hx] at h
  rw [rune_str, bs_append, show 9 * i + (k + 1) = 9 * i + k + 1 by omega, dg_front, h]; rfl
theorem dgt_more {x0 k x : Nat} (hx : x = x0 / 10 ^ k) (h : 0 < x) : k + 1 ≤ dgt x0 := by
  rcases Nat.lt_or_ge k (dgt x0) with h1 | h1
  · exact h1
  · have h2 := dgt_le.1 h1
    rw [Nat.div_eq_of_lt h2] at hx; omega
theorem dgt_less {x0 k x : Nat} (hx : x = x0 / 10 ^ k) (h : ¬ 0 < x) : dgt x0 ≤ k := by
  refine dgt_le.2 ?_
  have h1 : x0 / 10 ^ k = 0 := by omega
  rcases Nat.div_eq_zero_iff.1 h1 with h2 | h2
  · exact absurd h2 (Nat.pos_iff_ne_zero.1 (Nat.pow_pos (by decide)))
  · exact h2
theorem dgt_top {N n : Nat} (hn : n = (lim N).length) (h0 : 0 < n) : dgt N = 9 * (n - 1) + dgt ((lim N).getD (n - 1) 0) ∧ (lim N).getD (n - 1) 0 ≠ 0 := by
  have hk : n - 1 < (lim N).length := by omega
  have h1 := val_split (lim N) hk
  have h2 : (lim N).drop (n - 1 + 1) = [] := List.drop_eq_nil_of_le (by omega)
  rw [h2, val_lim] at h1
  have h3 : val ((lim N).take (n - 1)) < bas (n - 1) := by
    have := val_lt (dig_take (dig_lim N) (n - 1))
    rwa [List.length_take, Nat.min_eq_left (by omega)] at this
  have h4 : N / bas (n - 1) = (lim N).getD (n - 1) 0 := by
    generalize (lim N).getD (n - 1) 0 = t at h1 ⊢
    generalize val ((lim N).take (n - 1)) = A at h1 h3
    rw [h1, Nat.add_mul_div_left _ _ (bas_pos _), Nat.div_eq_of_lt h3]; simp [val]
  have hne : lim N ≠ [] := by intro h; rw [h] at hk; simp at hk
  have h5 : (lim N).getD (n - 1) 0 ≠ 0 := lim_last N _ (by rw [getLast_getD hne, hn])
  rw [bas_pow] at h4
  refine ⟨?_, h5⟩
  rw [dgt_shift (9 * (n - 1)) N (by rw [h4]; exact h5), h4]; omega
theorem rformat_zero (B : Nat) (v : Value) (w : World) (hv : IsInt B w v 0) : Calls Tryz.prog 77 #[v] w fun e w' => e = .returned (.string (bs [48])) ∧ Up w w' := by
  obtain ⟨s, A, n, c, rfl, Hs, Hn, hl, hc, _⟩ := hv
  obtain rfl : n = 0 := by rw [Hn.out]; simp [lim_zero]
  obtain ⟨w0, hw0⟩ : ∃ w0, w0 = (w.alloc (.cells #[.bool s, .slice A 0 c] 24)) := ⟨_, rfl⟩
  have hb1 : Bk w0 (w.heap.size) 24 #[.bool s, .slice A 0 c] := by
    have := Bk.new w 24 #[.bool s, .slice A 0 c]
    rw [hw0]; simpa using this
  have hup0 : Up w w0 := by rw [hw0]; exact (Up.refl w).alloc _
  have Hw0 := hide hw0
  clear hw0
  have e1a := hb1.cell (i := 0) rfl
  have e1b := hb1.cell (i := 1) rfl
  go_enter Tryz.func77, Tryz.ntmps77
  go_wp2_with fail
  rw [← Hw0.out]
  go_wp2
  go_ret
  exact ⟨rfl, hup0⟩
set_option maxRecDepth 100000 in
set_option maxHeartbeats 2000000 in
theorem rformat_nz (B : Nat) (v : Value) (z : Int) (w : World) (hv : IsInt B w v z) (hz : z.natAbs < top300) (h0 : z ≠ 0) : Calls Tryz.prog 77 #[v] w fun e w' => e = .returned (.string (bs (itxt z))) ∧ Up w w' := by
  obtain ⟨s, A, n, c, rfl, Hs, Hn, hl, hc, _⟩ := hv
  obtain ⟨N, hN⟩ : ∃ N, N = z.natAbs := ⟨_, rfl⟩
  have HT : Hid (itxt z = if s then 45 :: txt N else txt N) := by
    show itxt z = _
    unfold itxt
    rw [if_neg h0, Hs.out, hN]
    by_cases h : z < 0 <;> simp [h]
  have hN0 : N ≠ 0 := by omega
  rw [← hN] at Hn hl hz
  have hn34 : n ≤ 34 := by rw [Hn.out]; exact len_of_top hz
  have hn0 : 0 < n := by rw [Hn.out]; exact Nat.pos_of_ne_zero fun h => hN0 (lim_len_zero.1 h)
  have HD := hide (dgt_top Hn.out hn0)
  obtain ⟨w0, hw0⟩ : ∃ w0, w0 = (w.alloc (.cells #[.bool s, .slice A n c] 24)) := ⟨_, rfl⟩
  have hb1 : Bk w0 (w.heap.size) 24 #[.bool s, .slice A n c] := by
    have := Bk.new w 24 #[.bool s, .slice A n c]
    rw [hw0]; simpa using this
  have hup0 : Up w w0 := by rw [hw0]; exact (Up.refl w).alloc _
  have hl0 := hl.up hup0
  have Hw0 := hide hw0
  have HZ := hide hz
  clear hw0 hN h0 hz hN0
  have e1a := hb1.cell (i := 0) rfl
  have e1b := hb1.cell (i := 1) rfl
  go_enter Tryz.func77, Tryz.ntmps77
  go_wp2_with fail
  rw [← Hw0.out]
  go_wp2
  go_loop [3, 4] (fun ov iv => ∃ i D : Nat, i ≤ n ∧ iv = .int .i64 i ∧ ov = .string (bs (dg D N)) ∧ Hid ((i < n → D = 9 * i) ∧ (i = n → D = dgt N))) (fun _ iv => n - (intOf iv).toNat)
  case atStart => exact ⟨0, 0, by omega, rfl, rfl, fun _ => rfl, fun h => by omega⟩
  case round =>
    obtain ⟨i, D, hi, rfl, rfl, HI⟩ := hrel
    by_cases hin : i < n
    · obtain ⟨x0, hx0⟩ : ∃ x, Hid (x = (lim N).getD i 0) := ⟨_, rfl⟩
      obtain ⟨ad, rfl, hb, hcell⟩ := hl0.at_ (k := i) (by have := Hn.out; omega)
      rw [← hx0.out] at hcell
      have hx9 : x0 < 1000000000 := by rw [hx0.out]; exact dig_getD (dig_lim N) i
      have hsub : IntKind.i64.wrap ((n : Int) - 1) = ((n - 1 : Nat) : Int) := by rw [IntKind.wrap_i64]; omega
      obtain ⟨P, hP⟩ : ∃ P, P = n - 1 := ⟨_, rfl⟩
      rw [← hP] at hsub
      go_wp2
      go_loop [3, 5, 6] (fun ov xv kv => ∃ k x : Nat, k ≤ 9 ∧ kv = .int .i64 k ∧ xv = .int .u32 x ∧ x < 1000000000 ∧ ov = .string (bs (dg (9 * i + k) N)) ∧ Hid (x = x0 / 10 ^ k) ∧ Hid (i = P → k ≤ dgt x0)) (fun _ _ kv => 9 - (intOf kv).toNat)
      case atStart => exact ⟨0, x0, by omega, rfl, rfl, hx9, by rw [HI.out.1 hin]; rfl, by show _ = _; rw [Nat.pow_zero, Nat.div_one], fun _ => Nat.zero_le _⟩
      case round =>
        obtain ⟨k, x, hk, rfl, rfl, hx, rfl, HX, HK⟩ := hrel
        have hsz : ¬ 9223372036854775807 < (Utf8.encode ((48 : Int) + (x : Int) % 10)).size + (bs (dg (9 * i + k) N)).size := by rw [rune_str, bs_size, bs_size, dg_len]; simp; omega
        by_cases hk9 : k < 9
        · have HS := hide (rune_step hk9 hx0.out HX.out)
          have HX2 : Hid (x / 10 = x0 / 10 ^ (k + 1)) := by show _ = _; rw [HX.out, Nat.div_div_eq_div_mul, ← Nat.pow_succ]
          by_cases hx0' : 0 < x
          · have HK2 : Hid (i = P → k + 1 ≤ dgt x0) := fun _ => dgt_more HX.out hx0'
            go_wp2
            refine ⟨⟨k + 1, x / 10, ?_, ?_, ?_, ?_, ?_, HX2, HK2⟩, ?_⟩
            · omega
            · go_num
            · exact congrArg (Value.int .u32) rfl
            · omega
            · exact congrArg Value.string HS.out
            · simp only [intOf]; omega
          · by_cases hiP : i < P
            · have HK2 : Hid (i = P → k + 1 ≤ dgt x0) := fun h => by omega
              go_wp2
              refine ⟨⟨k + 1, x / 10, ?_, ?_, ?_, ?_, ?_, HX2, HK2⟩, ?_⟩
              · omega
              · go_num
              · exact congrArg (Value.int .u32) rfl
              · omega
              · exact congrArg Value.string HS.out
              · simp only [intOf]; omega
            · have HE : Hid (9 * i + k = dgt N) := by
                have h1 := HD.out.1
                have h2 := HK.out (by omega)
                have h3 := dgt_less HX.out hx0'
                rw [← hP, show P = i by omega, ← hx0.out] at h1
                show _ = _; omega
              clear hsz HS HX2
              go_wp2
              exact ⟨⟨i + 1, by omega, by go_num, 9 * i + k, rfl, fun h => by omega, fun _ => HE.out⟩, by simp [intOf]; omega⟩
        · obtain rfl : k = 9 := by omega
          have HE : Hid (i + 1 = n → 9 * i + 9 = dgt N) := fun h => by
            have h1 := HD.out.1
            have h2 := HK.out (by omega)
            have h3 : dgt x0 ≤ 9 := dgt_le.2 hx9
            rw [← hP, show P = i by omega, ← hx0.out] at h1
            omega
          clear hsz
          go_wp2
          exact ⟨⟨i + 1, by omega, by go_num, 9 * i + 9, rfl, fun h => by omega, fun h => HE.out h⟩, by simp [intOf]; omega⟩
    · obtain rfl : i = n := by omega
      have hD : D = dgt N := HI.out.2 rfl
      have hlen : dgt N ≤ 400 := by rw [HD.out.1]; have : dgt ((lim N).getD (i - 1) 0) ≤ 9 := dgt_le.2 (dig_getD (dig_lim N) _); omega
      have hsz : ¬ 9223372036854775807 < (⟨#[45]⟩ : ByteArray).size + (bs (dg D N)).size := by rw [bs_size, dg_len]; show ¬ 9223372036854775807 < 1 + D; omega
      have HB : Hid (dg D N = txt N) := by show _ = _; rw [hD]; rfl
      rw [← hD] at hlen
      clear hD
      cases s
      · go_wp2
        go_ret
        exact ⟨by rw [HB.out, HT.out]; rfl, hup0⟩
      · go_wp2
        go_ret
        exact ⟨by
          have e : (⟨#[45]⟩ : ByteArray) ++ bs (txt N) = bs (45 :: txt N) := bs_append [45] (txt N)
          rw [HB.out, HT.out, e]; rfl, hup0⟩
end Go.Proofs.YtldifgfpecicnaaGreatDoor
/- The reference's Parse. -/
namespace Go.Proofs.YtldifgfpecicnaaGreatDoor
open Go.RowKit

theorem blk_snoc {L : List Nat} {a i : Nat} (ha : a ≤ i) (hi : i < L.length) : (L.take (i + 1)).drop a = (L.take i).drop a ++ [L.getD i 0] := by
  have h1 : L.take (i + 1) = L.take i ++ [L.getD i 0] := by rw [List.take_add_one, List.getElem?_eq_getElem hi]; simp [List.getD, hi]
  rw [h1, List.drop_append_of_le_length (by rw [List.length_take]; omega)]
theorem digsB_append (l m : List Nat) : digsB (l ++ m) = (digsB l && digsB m) := by unfold digsB; rw [List.all_append]
theorem digsB_one {b : Nat} (h1 : 48 ≤ b) (h2 : b ≤ 57) : digsB [b] = true := by simp [digsB, h1, h2]
theorem getD_take {L : List Nat} {e i : Nat} (h : i < e) : (L.take e).getD i 0 = L.getD i 0 := by simp [List.getD, h]
theorem by_take {t : ByteArray} {L : List Nat} {e a : Nat} (h : by_ t = L.take e) (ha : a ≤ e) : Hid (by_ (t.extract 0 a) = L.take a) := by
  show _ = _
  rw [by_ext2, h, List.drop_zero, List.take_take, Nat.min_eq_left ha]
theorem dvf_blk9 {L : List Nat} {a i : Nat} (hd : digsB ((L.take i).drop a) = true) (h : i ≤ a + 9) : dvf 0 ((L.take i).drop a) < 1000000000 := by
  have h1 := dvf_lt _ hd
  refine Nat.lt_of_lt_of_le h1 ?_
  have h2 : ((L.take i).drop a).length ≤ 9 := by rw [List.length_drop, List.length_take]; omega
  exact Nat.pow_le_pow_right (n := 10) (by decide) h2
theorem digsB_ends {L : List Nat} {a e : Nat} (h1 : digsB ((L.take e).drop a) = true) (h2 : digsB (L.drop e) = true) (hae : a ≤ e) : digsB (L.drop a) = true := by
  have h : L.drop a = (L.take e).drop a ++ L.drop e := by
    conv => lhs; rw [← List.take_append_drop e L]
    rw [List.drop_append]
    congr 1
    rw [List.length_take]
    by_cases hl : e ≤ L.length
    · rw [Nat.min_eq_left hl, show a - e = 0 by omega, List.drop_zero]
    · rw [List.drop_eq_nil_of_le (show L.length ≤ e by omega)]; simp
  rw [h, digsB_append, h1, h2]; rfl
theorem digsB_ge {L : List Nat} {i : Nat} (h : i < L.length) (hb : ¬ (48 ≤ L.getD i 0 ∧ L.getD i 0 ≤ 57)) : digsB L = false := digsB_bad h hb

/-- What the reference's Parse gives behind the sign: the integer, or ErrSyntax. -/
def RetP (w : World) (s : ByteArray) (neg : Bool) (L : List Nat) (e : Ending) (w' : World) : Prop :=
  ∃ v E, e = .returned (.tuple #[v, .int .i64 E]) ∧ Up w w' ∧ ((E = 0 ∧ digsB L = true ∧ 0 < L.length ∧ L.length ≤ 300 ∧ bs (itxt (sgn neg (dvf 0 L))) = s ∧ IsInt w.heap.size w' v (sgn neg (dvf 0 L))) ∨
    (E = 2 ∧ ¬ (digsB L = true ∧ 0 < L.length ∧ L.length ≤ 300 ∧ bs (itxt (sgn neg (dvf 0 L))) = s) ∧ IsInt w.heap.size w' v 0))
theorem rformat_any (B : Nat) (v : Value) (z : Int) (w : World) (hv : IsInt B w v z) (hz : z.natAbs < top300) : Calls Tryz.prog 77 #[v] w fun e w' => e = .returned (.string (bs (itxt z))) ∧ Up w w' := by
  by_cases h : z = 0
  · subst h; exact rformat_zero B v w hv
  · exact rformat_nz B v z w hv hz h
/-- The length of a string, as a measure. -/
def strSize : Value → Nat
  | .string t => t.size
  | _ => 0
set_option maxRecDepth 1000000 in
set_option maxHeartbeats 4000000 in
theorem rparse_pos (s : ByteArray) (w : World) (hs : s.size ≤ 1000) (h0 : 0 < s.size) (hn : negB s = false) : Calls Tryz.prog 79 #[.string s] w (RetP w s false (by_ s)) := by
  obtain ⟨b0, Hb0⟩ : ∃ b, Hid (b = (by_ s).getD 0 0) := ⟨_, rfl⟩
  have hi0 : ∀ W : World, (Instr.index 9 (.string s) (.int .i64 0)).run Tryz.prog W = .ok (.int .u8 (b0 : Int)) W := fun W => ix_str s 0 b0 (by omega) Hb0 W
  have hb256 : b0 < 256 := by rw [Hb0.out]; exact byte_lt s 0
  have e45 : ((b0 : Int) == 45) = false := by
    rw [beq_eq_false_iff_ne]; intro h
    unfold negB at hn
    rw [← Hb0.out, decide_eq_false_iff_not] at hn; omega
  clear hn
  have HL := hide (by_len s)
  have hz' := str_empty (s := s) (by omega)
  have hE0 : ((s.size : Int) == 0) = false := by rw [beq_eq_false_iff_ne]; omega
  obtain ⟨w0, hw0⟩ : ∃ w0, w0 = (w.alloc (.cells #[.bool false, .slice none 0 0] 24)) := ⟨_, rfl⟩
  have hb1 : Bk w0 (w.heap.size) 24 #[.bool false, .slice none 0 0] := by
    have := Bk.new w 24 #[.bool false, .slice none 0 0]
    rw [hw0]; simpa using this
  have hup0 : Up w w0 := by rw [hw0]; exact (Up.refl w).alloc _
  have hsz0 : w0.heap.size = w.heap.size + 1 := by rw [hw0]; simp
  have Hw0 := hide hw0
  clear hw0
  have e1a := hb1.cell (i := 0) rfl
  have e1b := hb1.cell (i := 1) rfl
  by_cases h300 : s.size ≤ 300
  · go_enter Tryz.func79, Tryz.ntmps79
    go_wp2_with fail
    rw [← Hw0.out]
    go_wp2
    obtain ⟨L, hL⟩ : ∃ L, L = by_ s := ⟨_, rfl⟩
    have HLl : Hid (L.length = s.size) := by show _ = _; rw [hL]; exact HL.out
    have HTs : Hid (by_ s = L.take s.size) := by show _ = _; rw [← HLl.out, List.take_length, hL]
    rw [← hL]
    have HLs := hide hL
    clear hL
    go_loopw [4, 6] (fun tv lv wr => ∃ (k e : Nat) (t : ByteArray) (o : List Nat), tv = .string t ∧ e ≤ 300 ∧ e ≤ s.size ∧ t.size = e ∧ Hid (by_ t = L.take e) ∧ Own wr (w.heap.size + 1) lv k o ∧ Dig o ∧ k ≤ 300 ∧ Hid (0 < e → 9 * k + e = s.size) ∧ Hid (digsB (L.drop e) = true) ∧ Hid (val o + bas k * dvf 0 (L.take e) = dvf 0 L) ∧ Bk wr w.heap.size 24 #[.bool false, .slice none 0 0] ∧ Up w wr) (fun tv _ _ => strSize tv)
    case atStart => exact ⟨0, s.size, s, [], rfl, by omega, by omega, rfl, HTs, Own.nil _ _, (fun x hx => by cases hx), by omega, (fun _ => by omega), (by show _ = _; rw [← HLl.out, List.drop_length]; rfl), (by show _ = _; rw [← HLl.out, List.take_length]; simp [val, bas]), hb1, hup0⟩
    case round =>
      obtain ⟨k, e, t, o, rfl, he3, hes, hts, HTk, hown, hdo, hk3, H9, HGd, HV, hbk, hup⟩ := hrel
      have hsz := hup.size
      have c1 := hbk.cell (i := 0) rfl
      have c2 := hbk.cell (i := 1) rfl
      have f1 := hbk.frozen 0
      have f2 := hbk.frozen 1
      have q1 := hbk.two (.bool false) (.slice none 0 0)
      by_cases hgo : 0 < e
      · by_cases h9 : 9 ≤ e
        · obtain ⟨a, rfl⟩ : ∃ a, e = a + 9 := ⟨e - 9, by omega⟩
          have hcv := HTk.out
          have hx9 : ∀ i, i ≤ (a + 9) → digsB ((L.take i).drop a) = true → dvf 0 ((L.take i).drop a) < 1000000000 := fun i hi h => dvf_blk9 h (by omega)
          have HX9 := hide hx9
          clear hx9 hcv
          go_wp2
          go_loop [8, 9] (fun xv iv => ∃ i x : Nat, iv = .int .i64 i ∧ a ≤ i ∧ i ≤ (a + 9) ∧ xv = .int .u32 x ∧ x < 1000000000 ∧ Hid (x = dvf 0 ((L.take i).drop a)) ∧ Hid (digsB ((L.take i).drop a) = true)) (fun _ iv => (a + 9) - (intOf iv).toNat)
          case atStart => exact ⟨a, 0, by go_num, by omega, by omega, rfl, by omega, (by show _ = _; rw [List.drop_eq_nil_of_le (by rw [List.length_take]; omega)]; rfl), (by show _ = _; rw [List.drop_eq_nil_of_le (by rw [List.length_take]; omega)]; rfl)⟩
          case round =>
            obtain ⟨i, x, rfl, hai, hie, rfl, hx, HX, HG⟩ := hrel
            by_cases hin : i < (a + 9)
            · obtain ⟨b, Hb⟩ : ∃ b, Hid (b = L.getD i 0) := ⟨_, rfl⟩
              have Hb' : Hid (b = (by_ t).getD i 0) := by show _ = _; rw [HTk.out, getD_take hin]; exact Hb.out
              have hix : ∀ W : World, (Instr.index 9 (.string t) (.int .i64 (i : Int))).run Tryz.prog W = .ok (.int .u8 (b : Int)) W := fun W => ix_str t i b (by omega) Hb' W
              have hb256 : b < 256 := by rw [Hb'.out]; exact byte_lt t i
              have hiL : i < L.length := by rw [HLl.out]; omega
              by_cases hd : 48 ≤ b ∧ b ≤ 57
              · have HG2 : Hid (digsB ((L.take (i + 1)).drop a) = true) := by show _ = _; rw [blk_snoc hai hiL, digsB_append, HG.out, ← Hb.out, digsB_one hd.1 hd.2]; rfl
                have HX2 : Hid (10 * x + (b - 48) = dvf 0 ((L.take (i + 1)).drop a)) := by show _ = _; rw [blk_snoc hai hiL, dvf_append, ← HX.out, ← Hb.out, Nat.mul_comm]; rfl
                have hx2 : 10 * x + (b - 48) < 1000000000 := by rw [HX2.out]; exact HX9.out _ (by omega) HG2.out
                obtain ⟨h1, h2⟩ := hd
                clear hiL
                go_wp2
                go_round
                case rel => exact ⟨_, .int .u32 ((10 * x + (b - 48) : Nat) : Int), .int .i64 ((i + 1 : Nat) : Int), ⟨i + 1, rfl, by omega, by omega, 10 * x + (b - 48), rfl, hx2, HX2, HG2⟩, rfl, by go_num, by go_num⟩
                case measure => simp [intOf] <;> omega
              · have HF : Hid (digsB L = false) := digsB_bad hiL (by rw [← Hb.out]; exact hd)
                by_cases h1 : 48 ≤ b
                · have h2 : 57 < b := by omega
                  clear hd hiL
                  go_wp2
                  refine bodyPost_ret (v := .tuple #[.agg #[.bool false, .slice none 0 0], .int .i64 2]) (by simp [results, Tryz.results79, go_sem, q1.1, q1.2]) rfl ⟨_, 2, rfl, hup.two (Nat.le_refl _) _ _, .inr ⟨rfl, fun h => by rw [HF.out] at h; exact absurd h.1 (by decide), IsInt.zero _ _⟩⟩
                · have h2 : b < 48 := by omega
                  clear hd hiL
                  go_wp2
                  refine bodyPost_ret (v := .tuple #[.agg #[.bool false, .slice none 0 0], .int .i64 2]) (by simp [results, Tryz.results79, go_sem, q1.1, q1.2]) rfl ⟨_, 2, rfl, hup.two (Nat.le_refl _) _ _, .inr ⟨rfl, fun h => by rw [HF.out] at h; exact absurd h.1 (by decide), IsInt.zero _ _⟩⟩
            · obtain rfl : i = (a + 9) := by omega
              go_wp2_with (at_builtin; refine wp_app rfl _ _ rfl (w.heap.size + 1) _ k o rfl (show Own _ _ _ _ _ from World.ownsRow.alloc hown _) (some ⟨wr.heap.size, 0, none⟩) 1 1 [x] rfl rfl (lim_one _ _ _ rfl) (by omega) (by have := hup.size; simp; omega) ?_; intro v1 w1 hown1 hgrow1)
              have hbk' := (hbk.alloc _).grown hgrow1 (fun e => by have := (hown.lt _ e.symm).1; omega)
              have hup' := (hup.alloc _).grown hgrow1 (fun q hq => by have := (hown.lt q hq).1; omega)
              refine ⟨⟨k + 1, a, t.extract 0 a, o ++ [x], rfl, by omega, by omega, by rw [ByteArray.size_extract]; omega, by_take HTk.out (by omega), hown1, dig_snoc hdo hx, by have := H9.out (by omega); omega, fun _ => by have := H9.out (by omega); omega, digsB_ends HG.out HGd.out (by omega), ?_, hbk', hup'⟩, by show (t.extract 0 a).size < t.size; rw [ByteArray.size_extract]; omega⟩
              exact blk_step hown.len (by rw [dvf_block L a (a + 9) (by omega) (by rw [HLl.out]; omega), ← HX.out, show a + 9 - a = 9 by omega]) HV.out
        · skip
          have hcv := HTk.out
          have hx9 : ∀ i, i ≤ e → digsB ((L.take i).drop 0) = true → dvf 0 ((L.take i).drop 0) < 1000000000 := fun i hi h => dvf_blk9 h (by omega)
          have HX9 := hide hx9
          clear hx9 hcv
          go_wp2
          go_loop [8, 9] (fun xv iv => ∃ i x : Nat, iv = .int .i64 i ∧ 0 ≤ i ∧ i ≤ e ∧ xv = .int .u32 x ∧ x < 1000000000 ∧ Hid (x = dvf 0 ((L.take i).drop 0)) ∧ Hid (digsB ((L.take i).drop 0) = true)) (fun _ iv => e - (intOf iv).toNat)
          case atStart => exact ⟨0, 0, by go_num, by omega, by omega, rfl, by omega, (by show _ = _; rw [List.drop_eq_nil_of_le (by rw [List.length_take]; omega)]; rfl), (by show _ = _; rw [List.drop_eq_nil_of_le (by rw [List.length_take]; omega)]; rfl)⟩
          case round =>
            obtain ⟨i, x, rfl, hai, hie, rfl, hx, HX, HG⟩ := hrel
            by_cases hin : i < e
            · obtain ⟨b, Hb⟩ : ∃ b, Hid (b = L.getD i 0) := ⟨_, rfl⟩
              have Hb' : Hid (b = (by_ t).getD i 0) := by show _ = _; rw [HTk.out, getD_take hin]; exact Hb.out
              have hix : ∀ W : World, (Instr.index 9 (.string t) (.int .i64 (i : Int))).run Tryz.prog W = .ok (.int .u8 (b : Int)) W := fun W => ix_str t i b (by omega) Hb' W
              have hb256 : b < 256 := by rw [Hb'.out]; exact byte_lt t i
              have hiL : i < L.length := by rw [HLl.out]; omega
              by_cases hd : 48 ≤ b ∧ b ≤ 57
              · have HG2 : Hid (digsB ((L.take (i + 1)).drop 0) = true) := by show _ = _; rw [blk_snoc hai hiL, digsB_append, HG.out, ← Hb.out, digsB_one hd.1 hd.2]; rfl
                have HX2 : Hid (10 * x + (b - 48) = dvf 0 ((L.take (i + 1)).drop 0)) := by show _ = _; rw [blk_snoc hai hiL, dvf_append, ← HX.out, ← Hb.out, Nat.mul_comm]; rfl
                have hx2 : 10 * x + (b - 48) < 1000000000 := by rw [HX2.out]; exact HX9.out _ (by omega) HG2.out
                obtain ⟨h1, h2⟩ := hd
                clear hiL
                go_wp2
                go_round
                case rel => exact ⟨_, .int .u32 ((10 * x + (b - 48) : Nat) : Int), .int .i64 ((i + 1 : Nat) : Int), ⟨i + 1, rfl, by omega, 10 * x + (b - 48), rfl, hx2, HX2, HG2⟩, rfl, by go_num, by go_num⟩
                case measure => simp [intOf] <;> omega
              · have HF : Hid (digsB L = false) := digsB_bad hiL (by rw [← Hb.out]; exact hd)
                by_cases h1 : 48 ≤ b
                · have h2 : 57 < b := by omega
                  clear hd hiL
                  go_wp2
                  refine bodyPost_ret (v := .tuple #[.agg #[.bool false, .slice none 0 0], .int .i64 2]) (by simp [results, Tryz.results79, go_sem, q1.1, q1.2]) rfl ⟨_, 2, rfl, hup.two (Nat.le_refl _) _ _, .inr ⟨rfl, fun h => by rw [HF.out] at h; exact absurd h.1 (by decide), IsInt.zero _ _⟩⟩
                · have h2 : b < 48 := by omega
                  clear hd hiL
                  go_wp2
                  refine bodyPost_ret (v := .tuple #[.agg #[.bool false, .slice none 0 0], .int .i64 2]) (by simp [results, Tryz.results79, go_sem, q1.1, q1.2]) rfl ⟨_, 2, rfl, hup.two (Nat.le_refl _) _ _, .inr ⟨rfl, fun h => by rw [HF.out] at h; exact absurd h.1 (by decide), IsInt.zero _ _⟩⟩
            · obtain rfl : i = e := by omega
              go_wp2_with (at_builtin; refine wp_app rfl _ _ rfl (w.heap.size + 1) _ k o rfl (show Own _ _ _ _ _ from World.ownsRow.alloc hown _) (some ⟨wr.heap.size, 0, none⟩) 1 1 [x] rfl rfl (lim_one _ _ _ rfl) (by omega) (by have := hup.size; simp; omega) ?_; intro v1 w1 hown1 hgrow1)
              have hbk' := (hbk.alloc _).grown hgrow1 (fun e => by have := (hown.lt _ e.symm).1; omega)
              have hup' := (hup.alloc _).grown hgrow1 (fun q hq => by have := (hown.lt q hq).1; omega)
              refine ⟨⟨k + 1, 0, ByteArray.empty, o ++ [x], rfl, by omega, by omega, rfl, rfl, hown1, dig_snoc hdo hx, by have := H9.out (by omega); omega, fun h => by omega, digsB_ends (a := 0) HG.out HGd.out (by omega), ?_, hbk', hup'⟩, by show 0 < t.size; omega⟩
              exact blk_step (A := 0) hown.len (by rw [HX.out, List.drop_zero]; omega) HV.out
      · obtain rfl : e = 0 := by omega
        obtain ⟨A1, c1, rfl, hc1, hlim, hnew⟩ := hown.lim
        have HN : Hid (val o = dvf 0 L) := by
          have h1 := HV.out
          rw [List.take_zero] at h1
          show _ = _; rw [← h1]; simp [dvf]
        have hdL : digsB L = true := by have h1 := HGd.out; rwa [List.drop_zero] at h1
        have hlen3 : L.length ≤ 300 := by rw [HLl.out]; exact h300
        have htop := dvf_top hdL hlen3
        have hM := make_any false A1 c1 o wr hlim hdo k hown.len.symm (by omega)
        rw [HN.out] at hM
        obtain ⟨z, hz⟩ : ∃ z, z = sgn false (dvf 0 L) := ⟨_, rfl⟩
        have hzt : z.natAbs < top300 := by rw [hz, sgn_abs]; exact htop
        rw [← hz] at hM
        rw [show RetIntE wr z = fun e w' => ∃ v, e = .returned (.tuple #[v, .int .i64 0]) ∧ IsInt wr.heap.size w' v z ∧ Up wr w' by unfold RetIntE; rw [(bnd_ok hzt).1, (bnd_ok hzt).2]] at hM
        have HZ := hide hz
        have HDL := hide hdL
        have HZT := hide hzt
        clear hz hdL hzt htop hown hnew
        go_wp2_with fail
        refine hM.mono ?_
        rintro e w2 ⟨v2, rfl, hv2, hup2⟩
        obtain ⟨s2, A2, n2, k2, rfl, Hs2, Hn2, hl2, hc2, hnew2⟩ := id hv2
        go_wp2_with fail
        have hup3 : Up w (w2.alloc (.cells #[.bool s2, .slice A2 n2 k2] 24)) := (hup.trans hup2).alloc _
        have hv3 := hv2.up ((Up.refl w2).alloc (.cells #[.bool s2, .slice A2 n2 k2] 24))
        have hbk3 := (hbk.up hup2).alloc (.cells #[.bool s2, .slice A2 n2 k2] 24)
        have hbn : Bk (w2.alloc (.cells #[.bool s2, .slice A2 n2 k2] 24)) w2.heap.size 24 #[.bool s2, .slice A2 n2 k2] := Bk.new w2 _ _
        obtain ⟨S, hS⟩ : ∃ S, S = bs (itxt z) := ⟨_, rfl⟩
        have hF := rformat_any _ _ z _ hv3 HZT.out
        rw [← hS] at hF
        refine hF.mono ?_
        rintro e w4 ⟨rfl, hup4⟩
        have hbk4 := hbk3.up hup4
        have hbn4 := hbn.up hup4
        have d1 := hbk4.cell (i := 0) rfl
        have d2 := hbk4.cell (i := 1) rfl
        have d3 := hbk4.frozen 0
        have d4 := hbk4.frozen 1
        have d5 := hbn4.cell (i := 0) rfl
        have d6 := hbn4.cell (i := 1) rfl
        have hup5 := hup3.trans hup4
        have q2 := hbk4.two (.bool false) (.slice none 0 0)
        have q3 := hbk4.two (.bool s2) (.slice A2 n2 k2)
        clear hF
        have HS := hide hS
        clear hS
        have hnx : w.heap.size < wr.heap.size := hbk.lt
        have hlF := (hl2.up ((Up.refl w2).alloc (.cells #[.bool s2, .slice A2 n2 k2] 24))).up hup4
        by_cases hSs : S = s
        · have hne : (S.toList == s.toList) = true := by rw [hSs]; simp
          have HSs := hide hSs
          clear hSs
          go_wp2
          have hLs := HLs.out
          subst hLs
          refine bodyPost_ret (v := .tuple #[.agg #[.bool s2, .slice A2 n2 k2], .int .i64 0]) (by simp [results, Tryz.results79, go_sem, q3.1, q3.2]) rfl ⟨_, 0, rfl, hup5.two (Nat.le_refl _) _ _, .inl ⟨rfl, HDL.out, by rw [HLl.out]; exact h0, hlen3, by rw [← HZ.out, ← HS.out]; exact HSs.out, ?_⟩⟩
          rw [← HZ.out]
          exact ⟨s2, A2, n2, k2, rfl, Hs2, Hn2, hlF.two (hnew2.mono (by omega)) _ _, hc2, hnew2.mono (by omega)⟩
        · have hne : (S.toList == s.toList) = false := by
            rw [beq_eq_false_iff_ne]; intro h
            rw [ByteArray.toList_eq, ByteArray.toList_eq] at h
            exact hSs (by obtain ⟨⟨a⟩⟩ := S; obtain ⟨⟨b⟩⟩ := s; simp at h; rw [h])
          have HSs := hide hSs
          clear hSs
          go_wp2
          have hLs := HLs.out
          subst hLs
          exact bodyPost_ret (v := .tuple #[.agg #[.bool false, .slice none 0 0], .int .i64 2]) (by simp [results, Tryz.results79, go_sem, q2.1, q2.2]) rfl ⟨_, 2, rfl, hup5.two (Nat.le_refl _) _ _, .inr ⟨rfl, fun h => HSs.out (by rw [HS.out, HZ.out]; exact h.2.2.2), IsInt.zero _ _⟩⟩
  · go_enter Tryz.func79, Tryz.ntmps79
    go_wp2_with fail
    rw [← Hw0.out]
    go_wp2
    refine bodyPost_ret (v := .tuple #[.agg #[.bool false, .slice none 0 0], .int .i64 2]) (by simp [results, Tryz.results79, go_sem, e1a, e1b]) rfl ⟨_, 2, rfl, hup0, .inr ⟨rfl, fun h => h300 (by rw [← HL.out]; exact h.2.2.1), IsInt.zero _ _⟩⟩
end Go.Proofs.YtldifgfpecicnaaGreatDoor
/- The reference's Parse behind a sign. -/
namespace Go.Proofs.YtldifgfpecicnaaGreatDoor
open Go.RowKit

set_option maxRecDepth 1000000 in
set_option maxHeartbeats 4000000 in
theorem rparse_neg (s T : ByteArray) (w : World) (hs : s.size ≤ 1000) (hp : 0 < s.size) (hn : negB s = true) (HT : Hid (T = s.extract 1 s.size)) (h0 : 0 < T.size) : Calls Tryz.prog 79 #[.string s] w (RetP w s true (by_ T)) := by
  obtain ⟨b0, Hb0⟩ : ∃ b, Hid (b = (by_ s).getD 0 0) := ⟨_, rfl⟩
  have hi0 : ∀ W : World, (Instr.index 9 (.string s) (.int .i64 0)).run Tryz.prog W = .ok (.int .u8 (b0 : Int)) W := fun W => ix_str s 0 b0 (by omega) Hb0 W
  have hb256 : b0 < 256 := by rw [Hb0.out]; exact byte_lt s 0
  have e45 : ((b0 : Int) == 45) = true := by
    rw [beq_iff_eq]
    unfold negB at hn
    rw [← Hb0.out, decide_eq_true_eq] at hn; omega
  have hsl : ∀ W : World, (Instr.slice 9 (.string s) (some (.int .i64 1)) none none).run Tryz.prog W = .ok (.string T) W := fun W => by rw [run_slice_string_l W _ _ Tryz.underlying9 .i64 _ (by omega) (by omega), HT.out]; rfl
  have hT1000 : T.size ≤ 1000 := by rw [HT.out, ByteArray.size_extract]; omega
  clear hn
  have HL := hide (by_len T)
  have hzs := str_empty (s := s) (by omega)
  have hz' := str_empty (s := T) (by omega)
  have hE0 : ((T.size : Int) == 0) = false := by rw [beq_eq_false_iff_ne]; omega
  obtain ⟨w0, hw0⟩ : ∃ w0, w0 = (w.alloc (.cells #[.bool false, .slice none 0 0] 24)) := ⟨_, rfl⟩
  have hb1 : Bk w0 (w.heap.size) 24 #[.bool false, .slice none 0 0] := by
    have := Bk.new w 24 #[.bool false, .slice none 0 0]
    rw [hw0]; simpa using this
  have hup0 : Up w w0 := by rw [hw0]; exact (Up.refl w).alloc _
  have hsz0 : w0.heap.size = w.heap.size + 1 := by rw [hw0]; simp
  have Hw0 := hide hw0
  clear hw0
  have e1a := hb1.cell (i := 0) rfl
  have e1b := hb1.cell (i := 1) rfl
  by_cases h300 : T.size ≤ 300
  · go_enter Tryz.func79, Tryz.ntmps79
    go_wp2_with fail
    rw [← Hw0.out]
    go_wp2
    obtain ⟨L, hL⟩ : ∃ L, L = by_ T := ⟨_, rfl⟩
    have HLl : Hid (L.length = T.size) := by show _ = _; rw [hL]; exact HL.out
    have HTs : Hid (by_ T = L.take T.size) := by show _ = _; rw [← HLl.out, List.take_length, hL]
    rw [← hL]
    have HLs := hide hL
    clear hL
    go_loopw [4, 6] (fun tv lv wr => ∃ (k e : Nat) (t : ByteArray) (o : List Nat), tv = .string t ∧ e ≤ 300 ∧ e ≤ T.size ∧ t.size = e ∧ Hid (by_ t = L.take e) ∧ Own wr (w.heap.size + 1) lv k o ∧ Dig o ∧ k ≤ 300 ∧ Hid (0 < e → 9 * k + e = T.size) ∧ Hid (digsB (L.drop e) = true) ∧ Hid (val o + bas k * dvf 0 (L.take e) = dvf 0 L) ∧ Bk wr w.heap.size 24 #[.bool false, .slice none 0 0] ∧ Up w wr) (fun tv _ _ => strSize tv)
    case atStart => exact ⟨0, T.size, T, [], rfl, by omega, by omega, rfl, HTs, Own.nil _ _, (fun x hx => by cases hx), by omega, (fun _ => by omega), (by show _ = _; rw [← HLl.out, List.drop_length]; rfl), (by show _ = _; rw [← HLl.out, List.take_length]; simp [val, bas]), hb1, hup0⟩
    case round =>
      obtain ⟨k, e, t, o, rfl, he3, hes, hts, HTk, hown, hdo, hk3, H9, HGd, HV, hbk, hup⟩ := hrel
      have hsz := hup.size
      have c1 := hbk.cell (i := 0) rfl
      have c2 := hbk.cell (i := 1) rfl
      have f1 := hbk.frozen 0
      have f2 := hbk.frozen 1
      have q1 := hbk.two (.bool false) (.slice none 0 0)
      by_cases hgo : 0 < e
      · by_cases h9 : 9 ≤ e
        · obtain ⟨a, rfl⟩ : ∃ a, e = a + 9 := ⟨e - 9, by omega⟩
          have hcv := HTk.out
          have hx9 : ∀ i, i ≤ (a + 9) → digsB ((L.take i).drop a) = true → dvf 0 ((L.take i).drop a) < 1000000000 := fun i hi h => dvf_blk9 h (by omega)
          have HX9 := hide hx9
          clear hx9 hcv
          go_wp2
          go_loop [8, 9] (fun xv iv => ∃ i x : Nat, iv = .int .i64 i ∧ a ≤ i ∧ i ≤ (a + 9) ∧ xv = .int .u32 x ∧ x < 1000000000 ∧ Hid (x = dvf 0 ((L.take i).drop a)) ∧ Hid (digsB ((L.take i).drop a) = true)) (fun _ iv => (a + 9) - (intOf iv).toNat)
          case atStart => exact ⟨a, 0, by go_num, by omega, by omega, rfl, by omega, (by show _ = _; rw [List.drop_eq_nil_of_le (by rw [List.length_take]; omega)]; rfl), (by show _ = _; rw [List.drop_eq_nil_of_le (by rw [List.length_take]; omega)]; rfl)⟩
          case round =>
            obtain ⟨i, x, rfl, hai, hie, rfl, hx, HX, HG⟩ := hrel
            by_cases hin : i < (a + 9)
            · obtain ⟨b, Hb⟩ : ∃ b, Hid (b = L.getD i 0) := ⟨_, rfl⟩
              have Hb' : Hid (b = (by_ t).getD i 0) := by show _ = _; rw [HTk.out, getD_take hin]; exact Hb.out
              have hix : ∀ W : World, (Instr.index 9 (.string t) (.int .i64 (i : Int))).run Tryz.prog W = .ok (.int .u8 (b : Int)) W := fun W => ix_str t i b (by omega) Hb' W
              have hb256 : b < 256 := by rw [Hb'.out]; exact byte_lt t i
              have hiL : i < L.length := by rw [HLl.out]; omega
              by_cases hd : 48 ≤ b ∧ b ≤ 57
              · have HG2 : Hid (digsB ((L.take (i + 1)).drop a) = true) := by show _ = _; rw [blk_snoc hai hiL, digsB_append, HG.out, ← Hb.out, digsB_one hd.1 hd.2]; rfl
                have HX2 : Hid (10 * x + (b - 48) = dvf 0 ((L.take (i + 1)).drop a)) := by show _ = _; rw [blk_snoc hai hiL, dvf_append, ← HX.out, ← Hb.out, Nat.mul_comm]; rfl
                have hx2 : 10 * x + (b - 48) < 1000000000 := by rw [HX2.out]; exact HX9.out _ (by omega) HG2.out
                obtain ⟨h1, h2⟩ := hd
                clear hiL
                go_wp2
                go_round
                case rel => exact ⟨_, .int .u32 ((10 * x + (b - 48) : Nat) : Int), .int .i64 ((i + 1 : Nat) : Int), ⟨i + 1, rfl, by omega, by omega, 10 * x + (b - 48), rfl, hx2, HX2, HG2⟩, rfl, by go_num, by go_num⟩
                case measure => simp [intOf] <;> omega
              · have HF : Hid (digsB L = false) := digsB_bad hiL (by rw [← Hb.out]; exact hd)
                by_cases h1 : 48 ≤ b
                · have h2 : 57 < b := by omega
                  clear hd hiL
                  go_wp2
                  refine bodyPost_ret (v := .tuple #[.agg #[.bool false, .slice none 0 0], .int .i64 2]) (by simp [results, Tryz.results79, go_sem, q1.1, q1.2]) rfl ⟨_, 2, rfl, hup.two (Nat.le_refl _) _ _, .inr ⟨rfl, fun h => by rw [HF.out] at h; exact absurd h.1 (by decide), IsInt.zero _ _⟩⟩
                · have h2 : b < 48 := by omega
                  clear hd hiL
                  go_wp2
                  refine bodyPost_ret (v := .tuple #[.agg #[.bool false, .slice none 0 0], .int .i64 2]) (by simp [results, Tryz.results79, go_sem, q1.1, q1.2]) rfl ⟨_, 2, rfl, hup.two (Nat.le_refl _) _ _, .inr ⟨rfl, fun h => by rw [HF.out] at h; exact absurd h.1 (by decide), IsInt.zero _ _⟩⟩
            · obtain rfl : i = (a + 9) := by omega
              go_wp2_with (at_builtin; refine wp_app rfl _ _ rfl (w.heap.size + 1) _ k o rfl (show Own _ _ _ _ _ from World.ownsRow.alloc hown _) (some ⟨wr.heap.size, 0, none⟩) 1 1 [x] rfl rfl (lim_one _ _ _ rfl) (by omega) (by have := hup.size; simp; omega) ?_; intro v1 w1 hown1 hgrow1)
              have hbk' := (hbk.alloc _).grown hgrow1 (fun e => by have := (hown.lt _ e.symm).1; omega)
              have hup' := (hup.alloc _).grown hgrow1 (fun q hq => by have := (hown.lt q hq).1; omega)
              refine ⟨⟨k + 1, a, t.extract 0 a, o ++ [x], rfl, by omega, by omega, by rw [ByteArray.size_extract]; omega, by_take HTk.out (by omega), hown1, dig_snoc hdo hx, by have := H9.out (by omega); omega, fun _ => by have := H9.out (by omega); omega, digsB_ends HG.out HGd.out (by omega), ?_, hbk', hup'⟩, by show (t.extract 0 a).size < t.size; rw [ByteArray.size_extract]; omega⟩
              exact blk_step hown.len (by rw [dvf_block L a (a + 9) (by omega) (by rw [HLl.out]; omega), ← HX.out, show a + 9 - a = 9 by omega]) HV.out
        · skip
          have hcv := HTk.out
          have hx9 : ∀ i, i ≤ e → digsB ((L.take i).drop 0) = true → dvf 0 ((L.take i).drop 0) < 1000000000 := fun i hi h => dvf_blk9 h (by omega)
          have HX9 := hide hx9
          clear hx9 hcv
          go_wp2
          go_loop [8, 9] (fun xv iv => ∃ i x : Nat, iv = .int .i64 i ∧ 0 ≤ i ∧ i ≤ e ∧ xv = .int .u32 x ∧ x < 1000000000 ∧ Hid (x = dvf 0 ((L.take i).drop 0)) ∧ Hid (digsB ((L.take i).drop 0) = true)) (fun _ iv => e - (intOf iv).toNat)
          case atStart => exact ⟨0, 0, by go_num, by omega, by omega, rfl, by omega, (by show _ = _; rw [List.drop_eq_nil_of_le (by rw [List.length_take]; omega)]; rfl), (by show _ = _; rw [List.drop_eq_nil_of_le (by rw [List.length_take]; omega)]; rfl)⟩
          case round =>
            obtain ⟨i, x, rfl, hai, hie, rfl, hx, HX, HG⟩ := hrel
            by_cases hin : i < e
            · obtain ⟨b, Hb⟩ : ∃ b, Hid (b = L.getD i 0) := ⟨_, rfl⟩
              have Hb' : Hid (b = (by_ t).getD i 0) := by show _ = _; rw [HTk.out, getD_take hin]; exact Hb.out
              have hix : ∀ W : World, (Instr.index 9 (.string t) (.int .i64 (i : Int))).run Tryz.prog W = .ok (.int .u8 (b : Int)) W := fun W => ix_str t i b (by omega) Hb' W
              have hb256 : b < 256 := by rw [Hb'.out]; exact byte_lt t i
              have hiL : i < L.length := by rw [HLl.out]; omega
              by_cases hd : 48 ≤ b ∧ b ≤ 57
              · have HG2 : Hid (digsB ((L.take (i + 1)).drop 0) = true) := by show _ = _; rw [blk_snoc hai hiL, digsB_append, HG.out, ← Hb.out, digsB_one hd.1 hd.2]; rfl
                have HX2 : Hid (10 * x + (b - 48) = dvf 0 ((L.take (i + 1)).drop 0)) := by show _ = _; rw [blk_snoc hai hiL, dvf_append, ← HX.out, ← Hb.out, Nat.mul_comm]; rfl
                have hx2 : 10 * x + (b - 48) < 1000000000 := by rw [HX2.out]; exact HX9.out _ (by omega) HG2.out
                obtain ⟨h1, h2⟩ := hd
                clear hiL
                go_wp2
                go_round
                case rel => exact ⟨_, .int .u32 ((10 * x + (b - 48) : Nat) : Int), .int .i64 ((i + 1 : Nat) : Int), ⟨i + 1, rfl, by omega, 10 * x + (b - 48), rfl, hx2, HX2, HG2⟩, rfl, by go_num, by go_num⟩
                case measure => simp [intOf] <;> omega
              · have HF : Hid (digsB L = false) := digsB_bad hiL (by rw [← Hb.out]; exact hd)
                by_cases h1 : 48 ≤ b
                · have h2 : 57 < b := by omega
                  clear hd hiL
                  go_wp2
                  refine bodyPost_ret (v := .tuple #[.agg #[.bool false, .slice none 0 0], .int .i64 2]) (by simp [results, Tryz.results79, go_sem, q1.1, q1.2]) rfl ⟨_, 2, rfl, hup.two (Nat.le_refl _) _ _, .inr ⟨rfl, fun h => by rw [HF.out] at h; exact absurd h.1 (by decide), IsInt.zero _ _⟩⟩
                · have h2 : b < 48 := by omega
                  clear hd hiL
                  go_wp2
                  refine bodyPost_ret (v := .tuple #[.agg #[.bool false, .slice none 0 0], .int .i64 2]) (by simp [results, Tryz.results79, go_sem, q1.1, q1.2]) rfl ⟨_, 2, rfl, hup.two (Nat.le_refl _) _ _, .inr ⟨rfl, fun h => by rw [HF.out] at h; exact absurd h.1 (by decide), IsInt.zero _ _⟩⟩
            · obtain rfl : i = e := by omega
              go_wp2_with (at_builtin; refine wp_app rfl _ _ rfl (w.heap.size + 1) _ k o rfl (show Own _ _ _ _ _ from World.ownsRow.alloc hown _) (some ⟨wr.heap.size, 0, none⟩) 1 1 [x] rfl rfl (lim_one _ _ _ rfl) (by omega) (by have := hup.size; simp; omega) ?_; intro v1 w1 hown1 hgrow1)
              have hbk' := (hbk.alloc _).grown hgrow1 (fun e => by have := (hown.lt _ e.symm).1; omega)
              have hup' := (hup.alloc _).grown hgrow1 (fun q hq => by have := (hown.lt q hq).1; omega)
              refine ⟨⟨k + 1, 0, ByteArray.empty, o ++ [x], rfl, by omega, by omega, rfl, rfl, hown1, dig_snoc hdo hx, by have := H9.out (by omega); omega, fun h => by omega, digsB_ends (a := 0) HG.out HGd.out (by omega), ?_, hbk', hup'⟩, by show 0 < t.size; omega⟩
              exact blk_step (A := 0) hown.len (by rw [HX.out, List.drop_zero]; omega) HV.out
      · obtain rfl : e = 0 := by omega
        obtain ⟨A1, c1, rfl, hc1, hlim, hnew⟩ := hown.lim
        have HN : Hid (val o = dvf 0 L) := by
          have h1 := HV.out
          rw [List.take_zero] at h1
          show _ = _; rw [← h1]; simp [dvf]
        have hdL : digsB L = true := by have h1 := HGd.out; rwa [List.drop_zero] at h1
        have hlen3 : L.length ≤ 300 := by rw [HLl.out]; exact h300
        have htop := dvf_top hdL hlen3
        have hM := make_any true A1 c1 o wr hlim hdo k hown.len.symm (by omega)
        rw [HN.out] at hM
        obtain ⟨z, hz⟩ : ∃ z, z = sgn true (dvf 0 L) := ⟨_, rfl⟩
        have hzt : z.natAbs < top300 := by rw [hz, sgn_abs]; exact htop
        rw [← hz] at hM
        rw [show RetIntE wr z = fun e w' => ∃ v, e = .returned (.tuple #[v, .int .i64 0]) ∧ IsInt wr.heap.size w' v z ∧ Up wr w' by unfold RetIntE; rw [(bnd_ok hzt).1, (bnd_ok hzt).2]] at hM
        have HZ := hide hz
        have HDL := hide hdL
        have HZT := hide hzt
        clear hz hdL hzt htop hown hnew
        go_wp2_with fail
        refine hM.mono ?_
        rintro e w2 ⟨v2, rfl, hv2, hup2⟩
        obtain ⟨s2, A2, n2, k2, rfl, Hs2, Hn2, hl2, hc2, hnew2⟩ := id hv2
        go_wp2_with fail
        have hup3 : Up w (w2.alloc (.cells #[.bool s2, .slice A2 n2 k2] 24)) := (hup.trans hup2).alloc _
        have hv3 := hv2.up ((Up.refl w2).alloc (.cells #[.bool s2, .slice A2 n2 k2] 24))
        have hbk3 := (hbk.up hup2).alloc (.cells #[.bool s2, .slice A2 n2 k2] 24)
        have hbn : Bk (w2.alloc (.cells #[.bool s2, .slice A2 n2 k2] 24)) w2.heap.size 24 #[.bool s2, .slice A2 n2 k2] := Bk.new w2 _ _
        obtain ⟨S, hS⟩ : ∃ S, S = bs (itxt z) := ⟨_, rfl⟩
        have hF := rformat_any _ _ z _ hv3 HZT.out
        rw [← hS] at hF
        refine hF.mono ?_
        rintro e w4 ⟨rfl, hup4⟩
        have hbk4 := hbk3.up hup4
        have hbn4 := hbn.up hup4
        have d1 := hbk4.cell (i := 0) rfl
        have d2 := hbk4.cell (i := 1) rfl
        have d3 := hbk4.frozen 0
        have d4 := hbk4.frozen 1
        have d5 := hbn4.cell (i := 0) rfl
        have d6 := hbn4.cell (i := 1) rfl
        have hup5 := hup3.trans hup4
        have q2 := hbk4.two (.bool false) (.slice none 0 0)
        have q3 := hbk4.two (.bool s2) (.slice A2 n2 k2)
        clear hF
        have HS := hide hS
        clear hS
        have hnx : w.heap.size < wr.heap.size := hbk.lt
        have hlF := (hl2.up ((Up.refl w2).alloc (.cells #[.bool s2, .slice A2 n2 k2] 24))).up hup4
        by_cases hSs : S = s
        · have hne : (S.toList == s.toList) = true := by rw [hSs]; simp
          have HSs := hide hSs
          clear hSs
          go_wp2
          have hLs := HLs.out
          subst hLs
          refine bodyPost_ret (v := .tuple #[.agg #[.bool s2, .slice A2 n2 k2], .int .i64 0]) (by simp [results, Tryz.results79, go_sem, q3.1, q3.2]) rfl ⟨_, 0, rfl, hup5.two (Nat.le_refl _) _ _, .inl ⟨rfl, HDL.out, by rw [HLl.out]; exact h0, hlen3, by rw [← HZ.out, ← HS.out]; exact HSs.out, ?_⟩⟩
          rw [← HZ.out]
          exact ⟨s2, A2, n2, k2, rfl, Hs2, Hn2, hlF.two (hnew2.mono (by omega)) _ _, hc2, hnew2.mono (by omega)⟩
        · have hne : (S.toList == s.toList) = false := by
            rw [beq_eq_false_iff_ne]; intro h
            rw [ByteArray.toList_eq, ByteArray.toList_eq] at h
            exact hSs (by obtain ⟨⟨a⟩⟩ := S; obtain ⟨⟨b⟩⟩ := s; simp at h; rw [h])
          have HSs := hide hSs
          clear hSs
          go_wp2
          have hLs := HLs.out
          subst hLs
          exact bodyPost_ret (v := .tuple #[.agg #[.bool false, .slice none 0 0], .int .i64 2]) (by simp [results, Tryz.results79, go_sem, q2.1, q2.2]) rfl ⟨_, 2, rfl, hup5.two (Nat.le_refl _) _ _, .inr ⟨rfl, fun h => HSs.out (by rw [HS.out, HZ.out]; exact h.2.2.2), IsInt.zero _ _⟩⟩
  · go_enter Tryz.func79, Tryz.ntmps79
    go_wp2_with fail
    rw [← Hw0.out]
    go_wp2
    refine bodyPost_ret (v := .tuple #[.agg #[.bool false, .slice none 0 0], .int .i64 2]) (by simp [results, Tryz.results79, go_sem, e1a, e1b]) rfl ⟨_, 2, rfl, hup0, .inr ⟨rfl, fun h => h300 (by rw [← HL.out]; exact h.2.2.1), IsInt.zero _ _⟩⟩
end Go.Proofs.YtldifgfpecicnaaGreatDoor
/- Parse, of both sides, of every text of at most 1000 bytes. -/
namespace Go.Proofs.YtldifgfpecicnaaGreatDoor
open Go.RowKit

/-- A text is that of a valid integer. -/
def okS (s : ByteArray) : Bool := (s.toList == [48]) || natB (by_ (cutS s))
/-- The integer with a text. -/
def valS (s : ByteArray) : Int := sgn (negB s) (dvf 0 (by_ (cutS s)))
/-- What Parse returns. -/
def RetQ (w : World) (s : ByteArray) (e : Ending) (w' : World) : Prop :=
  ∃ v E, e = .returned (.tuple #[v, .int .i64 E]) ∧ Up w w' ∧ ((okS s = true ∧ E = 0 ∧ IsInt w.heap.size w' v (valS s)) ∨ (okS s = false ∧ E = 2 ∧ IsInt w.heap.size w' v 0))
theorem list_by {s : ByteArray} {l : List UInt8} : (s.toList == l) = decide (by_ s = l.map UInt8.toNat) := by
  rw [ByteArray.toList_eq, Bool.eq_iff_iff, beq_iff_eq, decide_eq_true_eq]
  unfold by_
  constructor
  · intro h; rw [h]
  · intro h
    have := congrArg (List.map UInt8.ofNat) h
    rw [List.map_map, List.map_map, show (UInt8.ofNat ∘ UInt8.toNat) = id by funext b; simp, List.map_id, List.map_id] at this
    exact this
theorem is_zero {s : ByteArray} (h : (s.toList == [48]) = true) : s = ⟨#[48]⟩ := by
  rw [list_by, decide_eq_true_eq] at h
  exact by_inj h
/-- A text of digits without a zero ahead is that of its number. -/
theorem txt_dvf {L : List Nat} (hd : digsB L = true) (h0 : L.getD 0 0 ≠ 48) (hl : 0 < L.length) : txt (dvf 0 L) = L := by
  have key : ∀ k, k ≤ L.length → dg k (dvf 0 (L.take k)) = L.take k := by
    intro k
    induction k with
    | zero => intro _; rfl
    | succ k ih =>
      intro h
      have hx : 48 ≤ L.getD k 0 ∧ L.getD k 0 ≤ 57 := by
        have := (List.all_eq_true.1 hd) (L[k]'(by omega)) (List.getElem_mem _)
        rw [List.getD, List.getElem?_eq_getElem (by omega)]
        simpa using this
      have h1 : L.take (k + 1) = L.take k ++ [L.getD k 0] := by rw [List.take_add_one, List.getElem?_eq_getElem (by omega)]; simp [List.getD, show k < L.length by omega]
      rw [dvf_step (by omega), h1]
      generalize L.getD k 0 = x at hx
      show dg k ((dvf 0 (L.take k) * 10 + (x - 48)) / 10) ++ [48 + (dvf 0 (L.take k) * 10 + (x - 48)) % 10] = _
      rw [show (dvf 0 (L.take k) * 10 + (x - 48)) / 10 = dvf 0 (L.take k) by omega, show 48 + (dvf 0 (L.take k) * 10 + (x - 48)) % 10 = x by omega, ih (by omega)]
  have hlen : dgt (dvf 0 L) = L.length := by
    have h1 := dgt_le.2 (dvf_lt L hd)
    rcases Nat.lt_or_ge (dgt (dvf 0 L)) L.length with h2 | h2
    · exfalso
      obtain ⟨x, l, rfl⟩ : ∃ x l, L = x :: l := by cases L with
        | nil => cases hl
        | cons x l => exact ⟨x, l, rfl⟩
      have h3 : dvf 0 (x :: l) < 10 ^ l.length := dgt_le.1 (by simp at h2; omega)
      have h4 : dvf 0 (x :: l) = (x - 48) * 10 ^ l.length + dvf 0 l := by
        show dvf (0 * 10 + (x - 48)) l = _
        rw [dvf_lin]; congr 1; rw [Nat.zero_mul, Nat.zero_add]
      have hx : 48 ≤ x ∧ x ≤ 57 := by have := (List.all_eq_true.1 hd) x (by simp); simpa using this
      have h5 : x ≠ 48 := by simpa using h0
      have h6 : 1 * 10 ^ l.length ≤ (x - 48) * 10 ^ l.length := Nat.mul_le_mul (by omega) (Nat.le_refl _)
      omega
    · omega
  unfold txt
  have h9 := key L.length (Nat.le_refl _)
  rw [List.take_length] at h9
  rw [hlen, h9]
theorem nat_of {L : List Nat} (h : natB L = true) : digsB L = true ∧ 0 < L.length ∧ L.length ≤ 300 ∧ txt (dvf 0 L) = L ∧ 0 < dvf 0 L := by
  obtain ⟨h1, h2, h3, h4⟩ := natB_out h
  exact ⟨h4, h1, h3, txt_dvf h4 h2 h1, dvf_pos h4 h2 h1⟩
theorem nat_in {L : List Nat} (hd : digsB L = true) (h0 : 0 < L.length) (h3 : L.length ≤ 300) (ht : txt (dvf 0 L) = L) (hz : dvf 0 L ≠ 0) : natB L = true := by
  have := txt_first hz
  rw [ht] at this
  unfold natB
  rw [decide_eq_true h0, decide_eq_true this, decide_eq_true h3, hd]; rfl
theorem itxt_lt {z : Int} : ∀ x ∈ itxt z, x < 256 := by
  intro x hx
  unfold itxt at hx
  split at hx
  · simp at hx; omega
  · split at hx
    · rcases List.mem_cons.1 hx with h | h
      · omega
      · have := dg_mem h; omega
    · have := dg_mem hx; omega
theorem itxt_pos {n : Nat} (h : n ≠ 0) : itxt (sgn false n) = txt n := by
  unfold itxt sgn
  rw [if_neg (by simp; omega)]
  simp
theorem itxt_neg {n : Nat} (h : n ≠ 0) : itxt (sgn true n) = 45 :: txt n := by
  unfold itxt sgn
  simp only [if_true]
  rw [if_neg (by omega), if_pos (by omega)]
  simp
/-- The text of no integer: what RetP's second case says. -/
theorem okS_pos {s : ByteArray} (hn : negB s = false) : okS s = true ↔ (digsB (by_ s) = true ∧ 0 < (by_ s).length ∧ (by_ s).length ≤ 300 ∧ bs (itxt (sgn false (dvf 0 (by_ s)))) = s) := by
  have hc : cutS s = s := by unfold cutS; rw [hn]; rfl
  unfold okS
  rw [hc, Bool.or_eq_true]
  constructor
  · rintro (h | h)
    · rw [is_zero h]; decide
    · obtain ⟨h1, h2, h3, h4, h5⟩ := nat_of h
      refine ⟨h1, h2, h3, ?_⟩
      rw [itxt_pos (by omega), h4, bs_by]
  · rintro ⟨h1, h2, h3, h4⟩
    have h5 : by_ s = itxt (sgn false (dvf 0 (by_ s))) := by have := congrArg by_ h4; rw [by_bs _ itxt_lt] at this; exact this.symm
    by_cases hz : dvf 0 (by_ s) = 0
    · left
      rw [hz] at h5
      rw [list_by, decide_eq_true_eq, h5]; rfl
    · right
      rw [itxt_pos hz] at h5
      exact nat_in h1 h2 h3 h5.symm hz
theorem by_behind {s T : ByteArray} (hn : negB s = true) (hT : T = s.extract 1 s.size) : by_ s = 45 :: by_ T := by
  rw [hT, by_ext2, ← by_len, List.take_length]
  unfold negB at hn
  rw [decide_eq_true_eq] at hn
  cases h : by_ s with
  | nil => rw [h] at hn; cases hn
  | cons x l => rw [h] at hn; simp at hn; rw [hn]; rfl
theorem okS_neg {s T : ByteArray} (hn : negB s = true) (hT : T = s.extract 1 s.size) : okS s = true ↔ (digsB (by_ T) = true ∧ 0 < (by_ T).length ∧ (by_ T).length ≤ 300 ∧ bs (itxt (sgn true (dvf 0 (by_ T)))) = s) := by
  have hc : cutS s = T := by unfold cutS; rw [hn, hT]; rfl
  have hs := by_behind hn hT
  have h0 : (s.toList == [48]) = false := by
    rw [list_by, hs, decide_eq_false_iff_not]; intro h; injection h with h; cases h
  unfold okS
  rw [hc, h0, Bool.false_or]
  constructor
  · intro h
    obtain ⟨h1, h2, h3, h4, h5⟩ := nat_of h
    refine ⟨h1, h2, h3, ?_⟩
    rw [itxt_neg (by omega), h4, ← hs, bs_by]
  · rintro ⟨h1, h2, h3, h4⟩
    have h5 : by_ s = itxt (sgn true (dvf 0 (by_ T))) := by have := congrArg by_ h4; rw [by_bs _ itxt_lt] at this; exact this.symm
    by_cases hz : dvf 0 (by_ T) = 0
    · rw [hz, hs] at h5
      have : itxt (sgn true 0) = [48] := rfl
      rw [this] at h5; injection h5 with h5; cases h5
    · rw [itxt_neg hz, hs] at h5
      injection h5 with _ h6
      exact nat_in h1 h2 h3 h6.symm hz
end Go.Proofs.YtldifgfpecicnaaGreatDoor
/- Parse, of both sides, of every text of at most 1000 bytes. -/
namespace Go.Proofs.YtldifgfpecicnaaGreatDoor
open Go.RowKit

set_option maxRecDepth 100000 in
theorem rparse_none (w : World) : Calls Tryz.prog 79 #[.string ⟨#[]⟩] w (RetNo w) := by
  go_enter Tryz.func79, Tryz.ntmps79
  go_wp2
  refine bodyPost_ret (v := .tuple #[.agg #[.bool false, .slice none 0 0], .int .i64 2]) (by simp [results, Tryz.results79, go_sem]) rfl ⟨_, rfl, IsInt.zero _ _, (Up.refl w).alloc _⟩
set_option maxRecDepth 100000 in
theorem rparse_dash (w : World) : Calls Tryz.prog 79 #[.string ⟨#[45]⟩] w (RetNo w) := by
  go_enter Tryz.func79, Tryz.ntmps79
  go_wp2
  refine bodyPost_ret (v := .tuple #[.agg #[.bool false, .slice none 0 0], .int .i64 2]) (by simp [results, Tryz.results79, go_sem]) rfl ⟨_, rfl, IsInt.zero _ _, (Up.refl w).alloc _⟩
theorem parse_zero (w : World) : Calls Tryz.prog 67 #[.string ⟨#[48]⟩] w (RetQ w ⟨#[48]⟩) := by
  go_enter Tryz.func67, Tryz.ntmps67
  go_wp2
  refine bodyPost_ret (v := .tuple #[.agg #[.bool false, .slice none 0 0], .int .i64 0]) (by simp [results, Tryz.results67, go_sem]) rfl ⟨_, 0, rfl, (Up.refl w).alloc _, .inl ⟨by decide +kernel, rfl, IsInt.zero _ _⟩⟩
theorem RetQ.of_no {w : World} {s : ByteArray} (h : okS s = false) {e : Ending} {w' : World} (hr : RetNo w e w') : RetQ w s e w' := by
  obtain ⟨v, rfl, h1, h2⟩ := hr
  exact ⟨v, 2, rfl, h2, .inr ⟨h, rfl, h1⟩⟩
/-- The program's Parse. -/
theorem parse_any (s : ByteArray) (w : World) (hs : s.size ≤ 1000) : Calls Tryz.prog 67 #[.string s] w (RetQ w s) := by
  by_cases hz : (s.toList == [48]) = true
  · rw [is_zero hz]; exact parse_zero w
  · have hz' : (s.toList == [48]) = false := by simpa using hz
    by_cases hn : natB (by_ (cutS s)) = true
    · refine (parse_yes s w hs hz' hn).mono ?_
      rintro e w' ⟨v, rfl, h1, h2⟩
      exact ⟨v, 0, rfl, h2, .inl ⟨by unfold okS; rw [hn, Bool.or_true], rfl, h1⟩⟩
    · have hn' : natB (by_ (cutS s)) = false := by simpa using hn
      exact (parse_no s w hs hz' hn').mono fun e w' h => RetQ.of_no (by unfold okS; rw [hz', hn']; rfl) h
/-- The reference's Parse. -/
theorem rparse_any (s : ByteArray) (w : World) (hs : s.size ≤ 1000) : Calls Tryz.prog 79 #[.string s] w (RetQ w s) := by
  cases hn : negB s with
  | false =>
    have hok := okS_pos hn
    by_cases h0 : s.size = 0
    · obtain rfl : s = ⟨#[]⟩ := by_inj (by rw [show by_ ⟨#[]⟩ = [] from rfl]; exact List.length_eq_zero_iff.1 (by rw [by_len]; exact h0))
      exact (rparse_none w).mono fun e w' h => RetQ.of_no (by decide +kernel) h
    · refine (rparse_pos s w hs (by omega) hn).mono ?_
      rintro e w' ⟨v, E, rfl, hup, ⟨rfl, h1, h2, h3, h4, h5⟩ | ⟨rfl, h1, h2⟩⟩
      · refine ⟨v, 0, rfl, hup, .inl ⟨hok.2 ⟨h1, h2, h3, h4⟩, rfl, ?_⟩⟩
        unfold valS cutS; rw [hn]; exact h5
      · exact ⟨v, 2, rfl, hup, .inr ⟨Bool.eq_false_iff.2 fun h => h1 (hok.1 h), rfl, h2⟩⟩
  | true =>
    obtain ⟨T, hT⟩ : ∃ T, T = s.extract 1 s.size := ⟨_, rfl⟩
    have hok := okS_neg hn hT
    have hby := by_behind hn hT
    have hpos : 0 < s.size := by rw [← by_len, hby]; simp
    by_cases h0 : T.size = 0
    · obtain rfl : s = ⟨#[45]⟩ := by_inj (by rw [hby, List.length_eq_zero_iff.1 (show (by_ T).length = 0 by rw [by_len]; exact h0)]; rfl)
      exact (rparse_dash w).mono fun e w' h => RetQ.of_no (by decide +kernel) h
    · refine (rparse_neg s T w hs hpos hn hT (by omega)).mono ?_
      rintro e w' ⟨v, E, rfl, hup, ⟨rfl, h1, h2, h3, h4, h5⟩ | ⟨rfl, h1, h2⟩⟩
      · refine ⟨v, 0, rfl, hup, .inl ⟨hok.2 ⟨h1, h2, h3, h4⟩, rfl, ?_⟩⟩
        have hc : cutS s = T := by unfold cutS; rw [hn, hT]; rfl
        unfold valS; rw [hc, hn]; exact h5
      · exact ⟨v, 2, rfl, hup, .inr ⟨Bool.eq_false_iff.2 fun h => h1 (hok.1 h), rfl, h2⟩⟩
/-- The text of an integer is a text, of that integer. -/
theorem okS_itxt {z : Int} (hz : z.natAbs < top300) : okS (bs (itxt z)) = true ∧ valS (bs (itxt z)) = z := by
  have hby : by_ (bs (itxt z)) = itxt z := by_bs _ itxt_lt
  have hnat : ∀ n, n ≠ 0 → n < top300 → natB (txt n) = true := fun n h0 hn => by
    refine nat_in (digsB_dg _ _) ?_ ?_ (by rw [dvf_txt]) (by rw [dvf_txt]; exact h0)
    · rw [txt_len, dgt_pos h0]; omega
    · rw [txt_len]
      have hl : 0 < (lim n).length := Nat.pos_of_ne_zero fun h => h0 (lim_len_zero.1 h)
      have h1 := (digs_lim n).2 hn
      have h2 := (dgt_top (N := n) rfl hl).1
      unfold digs at h1
      rw [if_neg (by omega)] at h1
      omega
  by_cases h0 : z = 0
  · subst h0; exact ⟨by decide +kernel, by decide +kernel⟩
  · rcases Int.lt_or_gt_of_ne h0 with h | h
    · obtain ⟨n, rfl⟩ : ∃ n : Nat, z = sgn true n := ⟨z.natAbs, by unfold sgn; simp; omega⟩
      rw [sgn_abs] at hz
      have hn0 : n ≠ 0 := by rintro rfl; exact h0 rfl
      rw [itxt_neg hn0] at hby ⊢
      have hneg : negB (bs (45 :: txt n)) = true := by unfold negB; rw [hby]; rfl
      have hT : by_ (cutS (bs (45 :: txt n))) = txt n := by
        have := by_behind hneg rfl
        rw [hby] at this
        injection this with _ h1
        unfold cutS; rw [hneg]; exact h1.symm
      unfold okS valS
      rw [hT, hneg, dvf_txt, hnat n hn0 hz]
      exact ⟨by simp, rfl⟩
    · obtain ⟨n, rfl⟩ : ∃ n : Nat, z = sgn false n := ⟨z.natAbs, by unfold sgn; simp; omega⟩
      rw [sgn_abs] at hz
      have hn0 : n ≠ 0 := by rintro rfl; exact h0 rfl
      rw [itxt_pos hn0] at hby ⊢
      have hneg : negB (bs (txt n)) = false := by
        unfold negB; rw [hby, decide_eq_false_iff_not]
        obtain ⟨k, hk⟩ : ∃ k, dgt n = k + 1 := ⟨dgt n - 1, by have := dgt_pos hn0; omega⟩
        unfold txt; rw [hk, dg_front]
        show ¬ 48 + n / 10 ^ k % 10 = 45
        omega
      unfold okS valS
      have hc : cutS (bs (txt n)) = bs (txt n) := by unfold cutS; rw [hneg]; rfl
      rw [hc, hby, hneg, dvf_txt, hnat n hn0 hz]
      exact ⟨by simp, rfl⟩
end Go.Proofs.YtldifgfpecicnaaGreatDoor
