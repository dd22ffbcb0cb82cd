/- Walks: the characters of string literals. -/
import Derived.Test.YtnhncakkbfjdjaaDoorWf
namespace Go.Proofs.YtnhncakkbfjdjaaDoor
open Go.RowKit

theorem hexI : ∀ c : Nat, c < 256 → Lib.indexByte (⟨#[48, 49, 50, 51, 52, 53, 54, 55, 56, 57, 97, 98, 99, 100, 101, 102]⟩ : ByteArray).data.toList ((c : Int).toNat.toUInt8) = if hxd c < 16 then (hxd c : Int) else -1 := by decide +kernel
theorem symI : ∀ c : Nat, c < 256 → decide (0 ≤ Lib.indexByte (⟨#[123, 125, 40, 41, 91, 93, 44, 59, 58, 61, 47, 43, 45, 60, 62, 124, 38, 42]⟩ : ByteArray).data.toList ((c : Int).toNat.toUInt8)) = isS c := by decide +kernel
/-- The index of a digit of \x, or -1. -/
def hxi (c : Nat) : Int := if hxd c < 16 then (hxd c : Int) else -1
theorem hexIdx (c : Nat) (w : World) (hc : c < 256) : Calls Tryd.prog 54 #[.string ⟨#[48, 49, 50, 51, 52, 53, 54, 55, 56, 57, 97, 98, 99, 100, 101, 102]⟩, .int .u8 (c : Int)] w fun e w' => e = .returned (.int .i64 (hxi c)) ∧ w' = w := by
  refine (Tryd.strings_IndexByte _ (c : Int) w).mono ?_
  rintro e w' ⟨rfl, rfl⟩
  exact ⟨by rw [hexI c hc]; rfl, rfl⟩
/-- Two bytes stand at the beginning. -/
def p2 (l : List Nat) (a b : Nat) : Bool := match l with | x :: y :: _ => x == a && y == b | _ => false
theorem pre2 (s : ByteArray) (a b : Nat) (ha : a < 256) (hb : b < 256) : Lib.hasPrefix s.data.toList [UInt8.ofNat a, UInt8.ofNat b] = p2 (by_ s) a b := by
  have e : ∀ (x : UInt8) (n : Nat), n < 256 → (UInt8.ofNat n == x) = (x.toNat == n) := by
    intro x n hn
    rw [Bool.eq_iff_iff, beq_iff_eq, beq_iff_eq]
    constructor
    · intro h; rw [← h]; exact UInt8.toNat_ofNat_of_lt' (show n < 256 from hn)
    · intro h; rw [← h]; simp
  unfold Lib.hasPrefix by_
  match s.data.toList with
  | [] => rfl
  | [x] => simp [p2, List.isPrefixOf]
  | x :: y :: r => simp [p2, List.isPrefixOf, e x a ha, e y b hb]
theorem hasPre (s : ByteArray) (a b : Nat) (ha : a < 256) (hb : b < 256) (p : ByteArray) (hp : p = ⟨#[UInt8.ofNat a, UInt8.ofNat b]⟩) (w : World) : Calls Tryd.prog 44 #[.string s, .string p] w fun e w' => e = .returned (.bool (p2 (by_ s) a b)) ∧ w = w' := by
  subst hp
  refine (Tryd.strings_HasPrefix s _ w).mono ?_
  rintro e w' ⟨rfl, rfl⟩
  exact ⟨by rw [← pre2 s a b ha hb], rfl⟩
/-- A function that returns a byte and a size. -/
def RetChr (w : World) (x : Nat × Nat) (e : Ending) (w' : World) : Prop := e = .returned (.tuple #[.int .u8 (x.1 : Int), .int .i64 (x.2 : Int)]) ∧ Up w w'
theorem hxv : ∀ x : Nat, x < 16 → ∀ y : Nat, y < 16 → (bits .or .i64 ((x : Int) * 16) (y : Int)) % 256 = ((16 * x + y : Nat) : Int) := by decide +kernel
theorem hxd_le (c : Nat) : hxd c ≤ 16 := by have := hxd_lt c; omega
set_option maxRecDepth 100000 in
set_option maxHeartbeats 1000000 in
theorem readHex_any (s : ByteArray) (w : World) (hs : s.size ≤ 100000) (a b : Nat) (r : List Nat) (hl : by_ s = 92 :: 120 :: a :: b :: r) : Calls Tryd.prog 87 #[.string s] w (RetChr w (chr (by_ s))) := by
  have h4 : 4 ≤ s.size := by rw [← by_len, hl]; simp
  have ha : a < 256 := by_lt s a (by rw [hl]; simp)
  have hb : b < 256 := by_lt s b (by rw [hl]; simp)
  have a2 : ((s[2]'(by omega)).toNat : Int) = (a : Int) := by rw [u8_at s 2 (by omega), hl]; rfl
  have a3 : ((s[3]'(by omega)).toNat : Int) = (b : Int) := by rw [u8_at s 3 (by omega), hl]; rfl
  have hlt : decide ((s.size : Int) < 4) = false := decide_eq_false (by omega)
  have HT : Hid (chr (by_ s) = if hxd a < 16 ∧ hxd b < 16 then (16 * hxd a + hxd b, 4) else (0, 0)) := by show _ = _; rw [hl]; rfl
  have Hl := hide hl
  clear hl
  obtain ⟨x, Hx⟩ : ∃ x, Hid (x = hxd a) := ⟨_, rfl⟩
  obtain ⟨y, Hy⟩ : ∃ y, Hid (y = hxd b) := ⟨_, rfl⟩
  have e16 : x ≤ 16 := by rw [Hx.out]; exact hxd_le a
  have f16 : y ≤ 16 := by rw [Hy.out]; exact hxd_le b
  rw [← Hx.out, ← Hy.out] at HT
  have cA : ∀ w, Calls Tryd.prog 54 #[.string ⟨#[48, 49, 50, 51, 52, 53, 54, 55, 56, 57, 97, 98, 99, 100, 101, 102]⟩, .int .u8 (a : Int)] w fun e w' => e = .returned (.int .i64 (if x < 16 then (x : Int) else -1)) ∧ w' = w := fun w => by rw [Hx.out]; exact hexIdx a w ha
  have cB : ∀ w, Calls Tryd.prog 54 #[.string ⟨#[48, 49, 50, 51, 52, 53, 54, 55, 56, 57, 97, 98, 99, 100, 101, 102]⟩, .int .u8 (b : Int)] w fun e w' => e = .returned (.int .i64 (if y < 16 then (y : Int) else -1)) ∧ w' = w := fun w => by rw [Hy.out]; exact hexIdx b w hb
  by_cases hx : x < 16
  · by_cases hy : y < 16
    · have HT2 : Hid (chr (by_ s) = (16 * x + y, 4)) := by show _ = _; rw [HT.out, if_pos ⟨hx, hy⟩]
      simp only [hx, hy, if_true] at cA cB
      have n1 : decide ((x : Int) < 0) = false := decide_eq_false (by omega)
      have n2 : decide ((y : Int) < 0) = false := decide_eq_false (by omega)
      have HV := hide (hxv x hx y hy)
      go_enter Tryd.func87, Tryd.ntmps87
      go_wp2
      go_quiet ((first | (go_at_call 54; exact Calls.quiet_of_same (cA _)) | (go_at_call 54; exact Calls.quiet_of_same (cB _))))
      go_wp2
      go_ret2
      exact ⟨by rw [HT2.out, ← HV.out]; rfl, (Up.refl _).drewN _⟩
    · have HT2 : Hid (chr (by_ s) = (0, 0)) := by show _ = _; rw [HT.out, if_neg (by omega)]
      simp only [hx, hy, if_true, if_false] at cA cB
      have n1 : decide ((x : Int) < 0) = false := decide_eq_false (by omega)
      go_enter Tryd.func87, Tryd.ntmps87
      go_wp2
      go_quiet ((first | (go_at_call 54; exact Calls.quiet_of_same (cA _)) | (go_at_call 54; exact Calls.quiet_of_same (cB _))))
      go_wp2
      go_ret2
      exact ⟨by rw [HT2.out]; rfl, (Up.refl _).drewN _⟩
  · have HT2 : Hid (chr (by_ s) = (0, 0)) := by show _ = _; rw [HT.out, if_neg (by omega)]
    by_cases hy : y < 16
    · simp only [hx, hy, if_true, if_false] at cA cB
      go_enter Tryd.func87, Tryd.ntmps87
      go_wp2
      go_quiet ((first | (go_at_call 54; exact Calls.quiet_of_same (cA _)) | (go_at_call 54; exact Calls.quiet_of_same (cB _))))
      go_wp2
      go_ret2
      exact ⟨by rw [HT2.out]; rfl, (Up.refl _).drewN _⟩
    · simp only [hx, hy, if_false] at cA cB
      go_enter Tryd.func87, Tryd.ntmps87
      go_wp2
      go_quiet ((first | (go_at_call 54; exact Calls.quiet_of_same (cA _)) | (go_at_call 54; exact Calls.quiet_of_same (cB _))))
      go_wp2
      go_ret2
      exact ⟨by rw [HT2.out]; rfl, (Up.refl _).drewN _⟩
set_option maxRecDepth 100000 in
set_option maxHeartbeats 1000000 in
theorem readHex_short (s : ByteArray) (w : World) (hs : s.size < 4) : Calls Tryd.prog 87 #[.string s] w (RetChr w (0, 0)) := by
  have hlt : decide ((s.size : Int) < 4) = true := decide_eq_true (by omega)
  go_enter Tryd.func87, Tryd.ntmps87
  go_wp2
  go_ret2
  exact ⟨rfl, Up.refl _⟩
theorem readHex_all (s : ByteArray) (w : World) (hs : s.size ≤ 100000) (r : List Nat) (hl : by_ s = 92 :: 120 :: r) : Calls Tryd.prog 87 #[.string s] w (RetChr w (chr (by_ s))) := by
  match r, hl with
  | a :: b :: r, hl => exact readHex_any s w hs a b r hl
  | [a], hl =>
    have e : chr (by_ s) = (0, 0) := by rw [hl]; rfl
    rw [e]
    exact readHex_short s w (by rw [← by_len, hl]; simp)
  | [], hl =>
    have e : chr (by_ s) = (0, 0) := by rw [hl]; rfl
    rw [e]
    exact readHex_short s w (by rw [← by_len, hl]; simp)
set_option maxRecDepth 100000 in
set_option maxHeartbeats 1000000 in
theorem readChr_any (s : ByteArray) (w : World) (hs : s.size ≤ 100000) (c : Nat) (r : List Nat) (hl : by_ s = c :: r) (hq : c ≠ 34) : Calls Tryd.prog 71 #[.string s] w (RetChr w (chr (by_ s))) := by
  have h0 : 0 < s.size := by rw [← by_len, hl]; simp
  have hc : c < 256 := by_lt s c (by rw [hl]; simp)
  have a0 : ((s[0]'h0).toNat : Int) = (c : Int) := by rw [u8_at s 0 h0, hl]; rfl
  by_cases h92 : c = 92
  · subst h92
    have a0 : ((s[0]'h0).toNat : Int) = 92 := a0
    match r, hl with
    | [], hl =>
      have P0 : Hid (p2 (by_ s) 92 34 = false) := by show _ = _; rw [hl]; rfl
      have P1 : Hid (p2 (by_ s) 92 92 = false) := by show _ = _; rw [hl]; rfl
      have P2 : Hid (p2 (by_ s) 92 110 = false) := by show _ = _; rw [hl]; rfl
      have P3 : Hid (p2 (by_ s) 92 120 = false) := by show _ = _; rw [hl]; rfl
      have HT : Hid (chr (by_ s) = (0, 0)) := by show _ = _; rw [hl]; rfl
      clear hl
      go_enter Tryd.func71, Tryd.ntmps71
      go_wp2_with fail
      refine (hasPre s 92 34 (by decide) (by decide) _ rfl _).mono ?_
      rw [P0.out]
      rintro e w' ⟨rfl, rfl⟩
      go_wp2_with fail
      refine (hasPre s 92 92 (by decide) (by decide) _ rfl _).mono ?_
      rw [P1.out]
      rintro e w' ⟨rfl, rfl⟩
      go_wp2_with fail
      refine (hasPre s 92 110 (by decide) (by decide) _ rfl _).mono ?_
      rw [P2.out]
      rintro e w' ⟨rfl, rfl⟩
      go_wp2_with fail
      refine (hasPre s 92 120 (by decide) (by decide) _ rfl _).mono ?_
      rw [P3.out]
      rintro e w' ⟨rfl, rfl⟩
      go_wp2
      go_ret2
      exact ⟨by rw [HT.out]; rfl, Up.refl _⟩
    | d :: r2, hl =>
      have hd : d < 256 := by_lt s d (by rw [hl]; simp)
      have h1 : 1 < s.size := by rw [← by_len, hl]; simp
      have a1 : ((s[1]'h1).toNat : Int) = (d : Int) := by rw [u8_at s 1 h1, hl]; rfl
      by_cases d34 : d = 34
      · subst d34
        have a1 : ((s[1]'h1).toNat : Int) = 34 := a1
        have P0 : Hid (p2 (by_ s) 92 34 = true) := by show _ = _; rw [hl]; rfl
        have HT : Hid (chr (by_ s) = (34, 2)) := by show _ = _; rw [hl]; rfl
        clear hl
        go_enter Tryd.func71, Tryd.ntmps71
        go_wp2_with fail
        refine (hasPre s 92 34 (by decide) (by decide) _ rfl _).mono ?_
        rw [P0.out]
        rintro e w' ⟨rfl, rfl⟩
        go_wp2
        go_ret2
        exact ⟨by rw [HT.out]; rfl, Up.refl _⟩
      · by_cases d92 : d = 92
        · subst d92
          have a1 : ((s[1]'h1).toNat : Int) = 92 := a1
          have P0 : Hid (p2 (by_ s) 92 34 = false) := by show _ = _; rw [hl]; rfl
          have P1 : Hid (p2 (by_ s) 92 92 = true) := by show _ = _; rw [hl]; rfl
          have HT : Hid (chr (by_ s) = (92, 2)) := by show _ = _; rw [hl]; rfl
          clear hl d34
          go_enter Tryd.func71, Tryd.ntmps71
          go_wp2_with fail
          refine (hasPre s 92 34 (by decide) (by decide) _ rfl _).mono ?_
          rw [P0.out]
          rintro e w' ⟨rfl, rfl⟩
          go_wp2_with fail
          refine (hasPre s 92 92 (by decide) (by decide) _ rfl _).mono ?_
          rw [P1.out]
          rintro e w' ⟨rfl, rfl⟩
          go_wp2
          go_ret2
          exact ⟨by rw [HT.out]; rfl, Up.refl _⟩
        · by_cases d110 : d = 110
          · subst d110
            have P0 : Hid (p2 (by_ s) 92 34 = false) := by show _ = _; rw [hl]; rfl
            have P1 : Hid (p2 (by_ s) 92 92 = false) := by show _ = _; rw [hl]; rfl
            have P2 : Hid (p2 (by_ s) 92 110 = true) := by show _ = _; rw [hl]; rfl
            have HT : Hid (chr (by_ s) = (10, 2)) := by show _ = _; rw [hl]; rfl
            clear hl d34 d92
            go_enter Tryd.func71, Tryd.ntmps71
            go_wp2_with fail
            refine (hasPre s 92 34 (by decide) (by decide) _ rfl _).mono ?_
            rw [P0.out]
            rintro e w' ⟨rfl, rfl⟩
            go_wp2_with fail
            refine (hasPre s 92 92 (by decide) (by decide) _ rfl _).mono ?_
            rw [P1.out]
            rintro e w' ⟨rfl, rfl⟩
            go_wp2_with fail
            refine (hasPre s 92 110 (by decide) (by decide) _ rfl _).mono ?_
            rw [P2.out]
            rintro e w' ⟨rfl, rfl⟩
            go_wp2
            go_ret2
            exact ⟨by rw [HT.out]; rfl, Up.refl _⟩
          · by_cases d120 : d = 120
            · subst d120
              have P0 : Hid (p2 (by_ s) 92 34 = false) := by show _ = _; rw [hl]; rfl
              have P1 : Hid (p2 (by_ s) 92 92 = false) := by show _ = _; rw [hl]; rfl
              have P2 : Hid (p2 (by_ s) 92 110 = false) := by show _ = _; rw [hl]; rfl
              have P3 : Hid (p2 (by_ s) 92 120 = true) := by show _ = _; rw [hl]; rfl
              have HT : Hid (chr (by_ s) = chr (by_ s)) := by show _ = _; rfl
              clear HT
              obtain ⟨x, Hx⟩ : ∃ x, Hid (x = chr (by_ s)) := ⟨_, rfl⟩
              rw [← Hx.out]
              have Hl := hide hl
              clear hl d34 d92 d110
              go_enter Tryd.func71, Tryd.ntmps71
              go_wp2_with fail
              refine (hasPre s 92 34 (by decide) (by decide) _ rfl _).mono ?_
              rw [P0.out]
              rintro e w' ⟨rfl, rfl⟩
              go_wp2_with fail
              refine (hasPre s 92 92 (by decide) (by decide) _ rfl _).mono ?_
              rw [P1.out]
              rintro e w' ⟨rfl, rfl⟩
              go_wp2_with fail
              refine (hasPre s 92 110 (by decide) (by decide) _ rfl _).mono ?_
              rw [P2.out]
              rintro e w' ⟨rfl, rfl⟩
              go_wp2_with fail
              refine (hasPre s 92 120 (by decide) (by decide) _ rfl _).mono ?_
              rw [P3.out]
              rintro e w' ⟨rfl, rfl⟩
              go_wp2_with fail
              refine (readHex_all s _ hs r2 Hl.out).mono ?_
              rw [← Hx.out]
              rintro e w' ⟨rfl, hu⟩
              go_wp2
              go_ret2
              exact ⟨rfl, hu⟩
            · have P0 : Hid (p2 (by_ s) 92 34 = false) := by show _ = _; rw [hl]; show ((92 == 92) && (d == 34)) = false; simpa using d34
              have P1 : Hid (p2 (by_ s) 92 92 = false) := by show _ = _; rw [hl]; show ((92 == 92) && (d == 92)) = false; simpa using d92
              have P2 : Hid (p2 (by_ s) 92 110 = false) := by show _ = _; rw [hl]; show ((92 == 92) && (d == 110)) = false; simpa using d110
              have P3 : Hid (p2 (by_ s) 92 120 = false) := by show _ = _; rw [hl]; show ((92 == 92) && (d == 120)) = false; simpa using d120
              have HT : Hid (chr (by_ s) = (0, 0)) := by show _ = _; rw [hl]; unfold chr; simp only []; rw [if_pos trivial, if_neg (by omega), if_neg d110, if_neg d120]
              clear hl d34 d92 d110 d120
              go_enter Tryd.func71, Tryd.ntmps71
              go_wp2_with fail
              refine (hasPre s 92 34 (by decide) (by decide) _ rfl _).mono ?_
              rw [P0.out]
              rintro e w' ⟨rfl, rfl⟩
              go_wp2_with fail
              refine (hasPre s 92 92 (by decide) (by decide) _ rfl _).mono ?_
              rw [P1.out]
              rintro e w' ⟨rfl, rfl⟩
              go_wp2_with fail
              refine (hasPre s 92 110 (by decide) (by decide) _ rfl _).mono ?_
              rw [P2.out]
              rintro e w' ⟨rfl, rfl⟩
              go_wp2_with fail
              refine (hasPre s 92 120 (by decide) (by decide) _ rfl _).mono ?_
              rw [P3.out]
              rintro e w' ⟨rfl, rfl⟩
              go_wp2
              go_ret2
              exact ⟨by rw [HT.out]; rfl, Up.refl _⟩
  · have P0 : Hid (p2 (by_ s) 92 34 = false) := by show _ = _; rw [hl]; cases r <;> simp [p2, h92]
    have P1 : Hid (p2 (by_ s) 92 92 = false) := by show _ = _; rw [hl]; cases r <;> simp [p2, h92]
    have P2 : Hid (p2 (by_ s) 92 110 = false) := by show _ = _; rw [hl]; cases r <;> simp [p2, h92]
    have P3 : Hid (p2 (by_ s) 92 120 = false) := by show _ = _; rw [hl]; cases r <;> simp [p2, h92]
    have n92 : ((c : Int) == 92) = false := by rw [beq_eq_false_iff_ne]; omega
    have n92' : decide ((c : Int) = 92) = false := decide_eq_false (by omega)
    by_cases hp : isP c = true
    · have HT : Hid (chr (by_ s) = (c, 1)) := by show _ = _; rw [hl]; unfold chr; simp only []; rw [if_neg h92, if_pos (by rw [hp]; simpa using hq)]
      have Hp := hide hp
      clear hl hp hq h92
      go_enter Tryd.func71, Tryd.ntmps71
      go_wp2_with fail
      refine (hasPre s 92 34 (by decide) (by decide) _ rfl _).mono ?_
      rw [P0.out]
      rintro e w' ⟨rfl, rfl⟩
      go_wp2_with fail
      refine (hasPre s 92 92 (by decide) (by decide) _ rfl _).mono ?_
      rw [P1.out]
      rintro e w' ⟨rfl, rfl⟩
      go_wp2_with fail
      refine (hasPre s 92 110 (by decide) (by decide) _ rfl _).mono ?_
      rw [P2.out]
      rintro e w' ⟨rfl, rfl⟩
      go_wp2_with fail
      refine (hasPre s 92 120 (by decide) (by decide) _ rfl _).mono ?_
      rw [P3.out]
      rintro e w' ⟨rfl, rfl⟩
      go_wp2_with fail
      refine (isP_any c _ hc).mono ?_
      rw [Hp.out]
      rintro e w' ⟨rfl, rfl⟩
      go_wp2
      go_ret2
      exact ⟨by rw [HT.out]; rfl, Up.refl _⟩
    · have HT : Hid (chr (by_ s) = (0, 0)) := by show _ = _; rw [hl]; unfold chr; simp only []; rw [if_neg h92, if_neg (by simp [hp])]
      have Hp := hide (Bool.eq_false_iff.2 hp)
      clear hl hp hq h92
      go_enter Tryd.func71, Tryd.ntmps71
      go_wp2_with fail
      refine (hasPre s 92 34 (by decide) (by decide) _ rfl _).mono ?_
      rw [P0.out]
      rintro e w' ⟨rfl, rfl⟩
      go_wp2_with fail
      refine (hasPre s 92 92 (by decide) (by decide) _ rfl _).mono ?_
      rw [P1.out]
      rintro e w' ⟨rfl, rfl⟩
      go_wp2_with fail
      refine (hasPre s 92 110 (by decide) (by decide) _ rfl _).mono ?_
      rw [P2.out]
      rintro e w' ⟨rfl, rfl⟩
      go_wp2_with fail
      refine (hasPre s 92 120 (by decide) (by decide) _ rfl _).mono ?_
      rw [P3.out]
      rintro e w' ⟨rfl, rfl⟩
      go_wp2_with fail
      refine (isP_any c _ hc).mono ?_
      rw [Hp.out]
      rintro e w' ⟨rfl, rfl⟩
      go_wp2
      go_ret2
      exact ⟨by rw [HT.out]; rfl, Up.refl _⟩
end Go.Proofs.YtnhncakkbfjdjaaDoor
