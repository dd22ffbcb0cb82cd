/- Walks: Crc of both. -/
import Derived.Test.YtdnhecgjfanakaaDoorBits
namespace Go.Proofs.YtdnhecgjfanakaaDoor
open Go.RowKit

theorem ret_int {k : IntKind} {a b : Int} (h : a = b) : Ending.returned (.int k a) = .returned (.int k b) := by rw [h]
theorem byte_lt (s : ByteArray) (k : Nat) : (by_ s).getD k 0 < 256 := by
  rw [List.getD]
  rcases h : (by_ s)[k]? with _ | x
  · decide
  · exact by_lt s x (List.mem_of_getElem? h)
theorem ix_str (s : ByteArray) (k b : Nat) (hk : k < s.size) (hb : Hid (b = (by_ s).getD k 0)) (w : World) : (Instr.index 9 (.string s) (.int .i64 (k : Int))).run Tryd.prog w = .ok (.int .u8 (b : Int)) w := by
  rw [hb.out, ← by_get s k hk]
  have hlen : (k : Int) < s.size := by omega
  simp [Instr.index, run_underlying Tryd.underlying9, hk, go_sem]
theorem take_snoc {s : ByteArray} {k b : Nat} (hk : k < s.size) (hb : b = (by_ s).getD k 0) : (by_ s).take (k + 1) = (by_ s).take k ++ [b] := by
  rw [List.take_add_one, hb]
  have : k < (by_ s).length := by rw [by_len]; exact hk
  simp [List.getD, this]
set_option maxRecDepth 1000000 in
set_option maxHeartbeats 1000000 in
theorem crc_any (s : ByteArray) (w : World) (hs : s.size ≤ 1000000) (hT : Tabs w) : Calls Tryd.prog 12 #[.string s] w fun e w' => e = .returned (.int .u32 (crc (by_ s) : Nat)) ∧ w = w' := by
  have HT := hide hT
  clear hT
  go_enter Tryd.func12, Tryd.ntmps12
  go_wp2
  go_loop [3, 7] (fun x i => ∃ k r : Nat, i = .int .i64 k ∧ k ≤ s.size ∧ x = .int .u32 r ∧ r < 4294967296 ∧ Hid (r = crcF 4294967295 ((by_ s).take k))) (fun _ i => (s.size - (intOf i).toNat))
  case atStart => exact ⟨0, 4294967295, rfl, by omega, rfl, by decide, rfl⟩
  case round =>
    obtain ⟨k, r, rfl, hk, rfl, hr, HR⟩ := hrel
    by_cases hlt : k < s.size
    · obtain ⟨b, hb⟩ : ∃ b, b = (by_ s).getD k 0 := ⟨_, rfl⟩
      have Hb := hide hb
      clear hb
      have hb256 : b < 256 := by rw [Hb.out]; exact byte_lt s k
      have hix : ∀ W : World, (Instr.index 9 (.string s) (.int .i64 (k : Int))).run Tryd.prog W = .ok (.int .u8 (b : Int)) W := fun W => ix_str s k b hlt Hb W
      obtain ⟨q, t1, q1, t2, q2, hn, hq, hq1, hq2, e1, e2, e3⟩ := crc_names r b hr hb256
      have HN := hide hn.step
      have hc1 : w.cell? ⟨1, q % 16, none⟩ = some (.int .u32 (t1 : Int)) := by rw [hn.t1_]; exact HT.out.half _ (by omega)
      have hc2 : w.cell? ⟨1, q1 % 16, none⟩ = some (.int .u32 (t2 : Int)) := by rw [hn.t2_]; exact HT.out.half _ (by omega)
      clear hn
      have a1 := and_15 q
      have a2 := and_15 q1
      go_wp2
      go_round
      case rel => exact ⟨k + 1, q2, by go_num, by omega, rfl, hq2, by show q2 = _; rw [take_snoc hlt Hb.out, crcF_snoc, ← HR.out, HN.out]⟩
      case measure => simp [intOf]; omega
    · obtain rfl : k = s.size := by omega
      have hx : Hid (crc (by_ s) = r ^^^ 4294967295) := by
        show crc (by_ s) = _
        unfold crc
        rw [HR.out, List.take_of_length_le (by rw [by_len]; omega)]
      go_wp2
      go_ret
      exact ⟨ret_int (by rw [hx.out]; exact not_n hr), rfl⟩
theorem shn_down {m : Nat} (h : m < 8) (y : Nat) : shn (8 - m) y = shn (8 - (m + 1)) (sh y) := by
  obtain ⟨n, hn⟩ : ∃ n, n = 8 - (m + 1) := ⟨_, rfl⟩
  rw [show 8 - m = n + 1 by omega, ← hn]; rfl
set_option maxRecDepth 1000000 in
set_option maxHeartbeats 1000000 in
theorem rcrc_any (s : ByteArray) (w : World) (hs : s.size ≤ 1000000) : Calls Tryd.prog 13 #[.string s] w fun e w' => e = .returned (.int .u32 (crc (by_ s) : Nat)) ∧ w = w' := by
  go_enter Tryd.func13, Tryd.ntmps13
  go_wp2
  go_loop [3, 4, 5, 6] (fun x i _ _ => ∃ k r : Nat, i = .int .i64 k ∧ k ≤ s.size ∧ x = .int .u32 r ∧ r < 4294967296 ∧ Hid (r = crcF 4294967295 ((by_ s).take k))) (fun _ i _ _ => (s.size - (intOf i).toNat))
  case atStart => exact ⟨0, 4294967295, rfl, by omega, rfl, by decide, rfl⟩
  case round =>
    obtain ⟨k, r, rfl, hk, rfl, hr, HR⟩ := hrel
    by_cases hlt : k < s.size
    · obtain ⟨b, hb⟩ : ∃ b, b = (by_ s).getD k 0 := ⟨_, rfl⟩
      have Hb := hide hb
      clear hb
      have hb256 : b < 256 := by rw [Hb.out]; exact byte_lt s k
      have hix : ∀ W : World, (Instr.index 9 (.string s) (.int .i64 (k : Int))).run Tryd.prog W = .ok (.int .u8 (b : Int)) W := fun W => ix_str s k b hlt Hb W
      obtain ⟨q, Hq⟩ : ∃ q, Hid (q = r ^^^ b) := ⟨_, rfl⟩
      have hq : q < 4294967296 := by rw [Hq.out]; exact Nat.xor_lt_two_pow (n := 32) hr (by omega)
      have e1 : bits .xor .u32 (r : Int) (b : Int) = (q : Int) := by rw [Hq.out]; exact xor_n hr (by omega)
      go_wp2
      go_loop [3, 5, 6] (fun x j _ => ∃ m y : Nat, j = .int .i64 m ∧ m ≤ 8 ∧ x = .int .u32 y ∧ y < 4294967296 ∧ Hid (shn (8 - m) y = crcStep r b)) (fun _ j _ => (8 - (intOf j).toNat))
      case atStart => exact ⟨0, q, rfl, by omega, rfl, hq, by show shn 8 q = _; rw [Hq.out]; rfl⟩
      case round =>
        clear e1
        obtain ⟨m, y, rfl, hm, rfl, hy, HS⟩ := hrel
        by_cases hlt8 : m < 8
        · have HD : Hid (shn (8 - (m + 1)) (sh y) = crcStep r b) := (shn_down hlt8 y).symm.trans HS.out
          have hsl := sh_lt (x := y) hy
          by_cases ho : y % 2 = 1
          · have a1 : bits .and .u32 (y : Int) 1 = 1 := by rw [and_1, ho]; rfl
            have e2 := sh_odd_i ho hy
            clear ho
            go_wp2
            go_round
            case rel => exact ⟨m + 1, sh y, by go_num, by omega, rfl, hsl, HD⟩
            case measure => simp [intOf]; omega
          · have a1 : bits .and .u32 (y : Int) 1 = 0 := by rw [and_1, show y % 2 = 0 by omega]; rfl
            have He := hide (sh_even ho)
            clear ho
            go_wp2
            go_round
            case rel => exact ⟨m + 1, sh y, by go_num, by omega, by rw [He.out]; rfl, hsl, HD⟩
            case measure => simp [intOf]; omega
        · obtain rfl : m = 8 := by omega
          go_wp2
          go_round
          case rel => exact ⟨k + 1, y, by go_num, by omega, rfl, hy, by show y = _; rw [take_snoc hlt Hb.out, crcF_snoc, ← HR.out]; exact HS.out⟩
          case measure => simp [intOf]; omega
    · obtain rfl : k = s.size := by omega
      have hx : Hid (crc (by_ s) = r ^^^ 4294967295) := by
        show crc (by_ s) = _
        unfold crc
        rw [HR.out, List.take_of_length_le (by rw [by_len]; omega)]
      go_wp2
      go_ret
      exact ⟨ret_int (by rw [hx.out]; exact not_n hr), rfl⟩

/-- A function that returns a string, and leaves what was there. -/
def RetStr (w : World) (s : ByteArray) (e : Ending) (w' : World) : Prop := e = .returned (.string s) ∧ Up w w'
theorem xl_get {l m : List Nat} {k x y : Nat} (hx : k < l.length) (hy : k < m.length) (ex : x = l.getD k 0) (ey : y = m.getD k 0) : (xl l m).getD k 0 = x ^^^ y := by
  unfold xl
  subst ex ey
  simp [List.getD, hx, hy, List.getElem?_zipWith]
theorem xl_set {l m : List Nat} {k z : Nat} (hk : k < (xl l m).length) (hz : (xl l m).getD k 0 = z) (n : Nat) (hn : n = (xl l m).length) :
    (((xl l m).take k ++ List.replicate (n - k) 0).set k z) = (xl l m).take (k + 1) ++ List.replicate (n - (k + 1)) 0 := by
  subst hn
  rw [List.set_append_right _ _ (by rw [List.length_take]; omega), List.length_take, Nat.min_eq_left (by omega), Nat.sub_self]
  rw [show (xl l m).length - k = ((xl l m).length - (k + 1)) + 1 by omega, List.replicate_succ, List.set_cons_zero, List.take_add_one]
  have : (xl l m)[k]? = some z := by rw [← hz]; simp [List.getD, hk]
  rw [this]
  simp
theorem xl_lt {l m : List Nat} (hl : ∀ x ∈ l, x < 256) (hm : ∀ x ∈ m, x < 256) : ∀ x ∈ xl l m, x < 256 := by
  intro x hx
  unfold xl at hx
  rw [List.mem_iff_getElem?] at hx
  obtain ⟨i, hi⟩ := hx
  rw [List.getElem?_zipWith] at hi
  rcases h1 : l[i]? with _ | a <;> rcases h2 : m[i]? with _ | b <;> rw [h1, h2] at hi <;> simp at hi
  subst hi
  exact Nat.xor_lt_two_pow (n := 8) (hl a (List.mem_of_getElem? h1)) (hm b (List.mem_of_getElem? h2))
set_option maxRecDepth 1000000 in
set_option maxHeartbeats 2000000 in
theorem rxor_any (s t : ByteArray) (w : World) (hs : s.size ≤ 100000) (hst : s.size = t.size) : Calls Tryd.prog 14 #[.string s, .string t] w (RetStr w (bs (xl (by_ s) (by_ t)))) := by
  have HL : Hid ((xl (by_ s) (by_ t)).length = s.size) := by show _ = _; unfold xl; rw [List.length_zipWith, by_len, by_len]; omega
  have Hst := hide hst
  clear hst
  obtain ⟨i0, hi, hz0, hz1, hz2⟩ := info_parts Tryd.info5
  go_enter Tryd.func14, Tryd.ntmps14
  go_wp2_with (refine wp_mk rfl _ _ rfl w.heap.size s.size _ _ _ _ rfl rfl rfl rfl (by omega) (Nat.le_refl _) ?_; intro w1 hown1 hup1 hlt1)
  go_loopw [6] (fun i wr => ∃ k : Nat, i = .int .i64 k ∧ k ≤ s.size ∧ Own wr w.heap.size (.slice (some ⟨w.heap.size, 0, none⟩) s.size s.size) s.size ((xl (by_ s) (by_ t)).take k ++ List.replicate (s.size - k) 0) ∧ Up w wr) (fun i _ => (s.size - (intOf i).toNat))
  case atStart => exact ⟨0, rfl, by omega, by simpa using hown1, hup1⟩
  case round =>
    clear hown1 hup1 hlt1
    obtain ⟨k, rfl, hk, hown, hup⟩ := hrel
    have HO := hide hown
    by_cases hlt : k < s.size
    · have hcell := hown.cell (j := k) hlt
      have hfr := hown.frozen k
      generalize (((xl (by_ s) (by_ t)).take k ++ List.replicate (s.size - k) 0).getD k 0) = old at hcell
      obtain ⟨x, hx⟩ : ∃ x, x = (by_ s).getD k 0 := ⟨_, rfl⟩
      obtain ⟨y, hy⟩ : ∃ y, y = (by_ t).getD k 0 := ⟨_, rfl⟩
      have Hx := hide hx
      have Hy := hide hy
      clear hx hy
      have hx2 : x < 256 := by rw [Hx.out]; exact byte_lt s k
      have hy2 : y < 256 := by rw [Hy.out]; exact byte_lt t k
      have htk : k < t.size := by rw [← Hst.out]; exact hlt
      have hix : ∀ W : World, (Instr.index 9 (.string s) (.int .i64 (k : Int))).run Tryd.prog W = .ok (.int .u8 (x : Int)) W := fun W => ix_str s k x hlt Hx W
      have hiy : ∀ W : World, (Instr.index 9 (.string t) (.int .i64 (k : Int))).run Tryd.prog W = .ok (.int .u8 (y : Int)) W := fun W => ix_str t k y htk Hy W
      have e1 : bits .xor .u8 (x : Int) (y : Int) = ((x ^^^ y : Nat) : Int) := xor8_n hx2 hy2
      have HS := hide (xl_set (l := by_ s) (m := by_ t) (k := k) (z := x ^^^ y) (by rw [HL.out]; exact hlt) (xl_get (by rw [by_len]; exact hlt) (by rw [by_len]; exact htk) Hx.out Hy.out) s.size HL.out.symm)
      have HO2 := hide (hown.set_ k (x ^^^ y))
      clear hown
      go_wp2
      go_region
      all_goals go_wp2
      all_goals go_roundw
      case rel => exact ⟨k + 1, by go_num, by omega, by rw [← HS.out]; exact (HO2.out.up ((Up.refl _).drew)), (hup.setCell (Nat.le_refl _) _).drew⟩
      case measure => simp [intOf]; omega
    · obtain rfl : k = s.size := by omega
      obtain ⟨A1, c1, hA, _, hlim1, _⟩ := hown.lim
      cases hA
      have hE : (xl (by_ s) (by_ t)).take s.size ++ List.replicate (s.size - s.size) 0 = xl (by_ s) (by_ t) := by
        rw [List.take_of_length_le (by rw [HL.out]; omega), Nat.sub_self]; simp
      rw [hE] at hlim1
      have hcv := run_str wr _ s.size s.size _ hlim1 HL.out (xl_lt (by_lt s) (by_lt t))
      clear hE hlim1 hown
      go_wp2
      go_ret
      exact ⟨rfl, hup⟩
end Go.Proofs.YtdnhecgjfanakaaDoor
