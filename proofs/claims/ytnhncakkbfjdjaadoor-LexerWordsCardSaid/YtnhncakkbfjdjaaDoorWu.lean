/- Walks: what stands between tokens. -/
import Derived.Test.YtnhncakkbfjdjaaDoorWt
import Derived.Shelf.Strings.SlTrimAscii
namespace Go.Proofs.YtnhncakkbfjdjaaDoor
open Go.RowKit

theorem u8_eq (x : UInt8) (n : Nat) (hn : n < 256) : (x = UInt8.ofNat n) ↔ x.toNat = n := by
  constructor
  · intro h; rw [h]; exact UInt8.toNat_ofNat_of_lt' (show n < 256 from hn)
  · intro h; rw [← h]; simp
theorem white_has (b : UInt8) : (([32, 9, 13, 10] : List UInt8).contains b) = isW b.toNat := by
  have e : ∀ n : Nat, n < 256 → ((b == UInt8.ofNat n) = (b.toNat == n)) := fun n hn => by
    rw [Bool.eq_iff_iff, beq_iff_eq, beq_iff_eq]; exact u8_eq b n hn
  have h32 := e 32 (by decide)
  have h9 := e 9 (by decide)
  have h13 := e 13 (by decide)
  have h10 := e 10 (by decide)
  show ([UInt8.ofNat 32, UInt8.ofNat 9, UInt8.ofNat 13, UInt8.ofNat 10] : List UInt8).contains b = _
  unfold isW
  simp only [List.contains_cons, List.contains_nil, h32, h9, h13, h10, Bool.or_false, Bool.or_assoc]
theorem trim_map (l : List UInt8) : (Lib.trimLeftS l [32, 9, 13, 10]).map UInt8.toNat = (l.map UInt8.toNat).drop (cnt isW (l.map UInt8.toNat)) := by
  unfold Lib.trimLeftS
  induction l with
  | nil => rfl
  | cons b l ih =>
    rw [List.dropWhile_cons, List.map_cons, white_has b]
    unfold cnt
    split
    · rw [List.drop_succ_cons]; exact ih
    · rfl
theorem trimLeft_any (s : ByteArray) (w : World) : Calls Tryd.prog 43 #[.string s, .string ⟨#[32, 9, 13, 10]⟩] w fun e w' => e = .returned (.string (bs ((by_ s).drop (cnt isW (by_ s))))) ∧ Up w w' := by
  refine (Any.strings_TrimLeft_laid Tryd.lays161 (by kernel_rfl) s ⟨#[32, 9, 13, 10]⟩ w (by decide) (fun j b h => ?_)).mono ?_
  · have h2 : b ∈ ([32, 9, 13, 10] : List UInt8) := List.mem_of_getElem? h
    simp at h2
    rcases h2 with rfl | rfl | rfl | rfl <;> decide
  · rintro e w' ⟨rfl, hb⟩
    refine ⟨?_, hb⟩
    congr 2
    rw [← bs_by (⟨(Lib.trimLeftS s.data.toList [32, 9, 13, 10]).toArray⟩ : ByteArray)]
    congr 1
    exact trim_map s.data.toList
theorem cnt_yes (p : Nat → Bool) (c : Nat) (r : List Nat) (h : p c = true) : cnt p (c :: r) = cnt p r + 1 := by rw [cnt, if_pos h]
theorem cnt_no (p : Nat → Bool) (c : Nat) (r : List Nat) (h : p c = false) : cnt p (c :: r) = 0 := by rw [cnt, if_neg (by rw [h]; simp)]
theorem index_lf (l : List UInt8) : Lib.index l [10] = if cnt (fun x => x != 10) (l.map UInt8.toNat) < l.length then (cnt (fun x => x != 10) (l.map UInt8.toNat) : Int) else -1 := by
  induction l with
  | nil => rfl
  | cons b l ih =>
    unfold Lib.index
    rw [List.map_cons]
    have hb := u8_eq b 10 (by decide)
    by_cases h : b = UInt8.ofNat 10
    · have h' := hb.1 h
      have e1 : ([10] : List UInt8).isPrefixOf (b :: l) = true := by rw [h]; rfl
      rw [if_pos e1, cnt_no _ _ _ (by rw [h']; rfl), if_pos (by simp)]
      rfl
    · have h' : b.toNat ≠ 10 := fun e => h (hb.2 e)
      have e1 : ([10] : List UInt8).isPrefixOf (b :: l) = false := by
        show ((10 : UInt8) == b && _) = false
        have : ((10 : UInt8) == b) = false := by rw [beq_eq_false_iff_ne]; intro e; exact h e.symm
        rw [this]; rfl
      rw [if_neg (by rw [e1]; simp), ih, cnt_yes _ _ _ (by simpa using h')]
      by_cases hc : cnt (fun x => x != 10) (l.map UInt8.toNat) < l.length
      · rw [if_pos hc, if_neg (by rw [beq_iff_eq]; omega), if_pos (by simp only [List.length_cons]; omega)]
        omega
      · rw [if_neg hc, if_pos (by decide : ((-1 : Int) == -1) = true), if_neg (by simp only [List.length_cons]; omega)]
theorem cut_map (l : List UInt8) : (Lib.cut l [10]).2.1.map UInt8.toNat = (l.map UInt8.toNat).drop (cnt (fun x => x != 10) (l.map UInt8.toNat) + 1) := by
  unfold Lib.cut
  rw [index_lf]
  have hle := cnt_le (fun x => x != 10) (l.map UInt8.toNat)
  rw [List.length_map] at hle
  by_cases hc : cnt (fun x => x != 10) (l.map UInt8.toNat) < l.length
  · rw [if_pos hc, if_pos (by omega)]
    show (l.drop _).map _ = _
    rw [Int.toNat_natCast, List.map_drop]
    rfl
  · rw [if_neg hc, if_neg (by omega)]
    show [] = _
    rw [List.drop_eq_nil_of_le (by rw [List.length_map]; omega)]
/-- What Cut returns behind a line feed. -/
def RetCut (w : World) (t : List Nat) (e : Ending) (w' : World) : Prop := ∃ a b, e = .returned (.tuple #[.string a, .string (bs t), .bool b]) ∧ Up w w'
theorem cut_any (s : ByteArray) (w : World) (hs : s.size ≤ 100000) (hTab : Tabs w) : Calls Tryd.prog 45 #[.string s, .string ⟨#[10]⟩] w (RetCut w ((by_ s).drop (cnt (fun x => x != 10) (by_ s) + 1))) := by
  obtain ⟨m, hm⟩ := hTab.max
  refine (Tryd.strings_Cut s ⟨#[10]⟩ m w (by omega) hm).mono ?_
  rintro e w' ⟨he, n, rfl⟩
  have e1 : (⟨(Lib.cut s.data.toList [10]).2.1.toArray⟩ : ByteArray) = bs ((by_ s).drop (cnt (fun x => x != 10) (by_ s) + 1)) := by
    rw [← bs_by (⟨(Lib.cut s.data.toList [10]).2.1.toArray⟩ : ByteArray)]
    congr 1
    exact cut_map s.data.toList
  have he2 : e = .returned (.tuple #[.string ⟨(Lib.cut s.data.toList [10]).1.toArray⟩, .string ⟨(Lib.cut s.data.toList [10]).2.1.toArray⟩, .bool (Lib.cut s.data.toList [10]).2.2]) := he
  rw [e1] at he2
  exact ⟨_, _, he2, (Up.refl _).drewN n⟩
def strLen (v : Value) : Nat := match v with | .string s => s.size | _ => 0
theorem strLen_bs (l : List Nat) : strLen (.string (bs l)) = l.length := bs_size l
/-- The rest behind a gap. -/
def GapAt (l : List Nat) (k : Nat) : Prop := ∀ n, toks l n = toks (l.drop k) (n + nls (l.take k))
theorem take_more (l : List Nat) (k a : Nat) : l.take (k + a) = l.take k ++ (l.drop k).take a := by rw [List.take_add]
theorem GapAt.white {l : List Nat} {k : Nat} (h : GapAt l k) : GapAt l (k + cnt isW (l.drop k)) := by
  intro n
  rw [h n]
  conv => lhs; rw [← List.take_append_drop (cnt isW (l.drop k)) (l.drop k)]
  rw [toks_whites _ _ _ (cnt_take isW (l.drop k)), take_more, nls_append, List.drop_drop, Nat.add_assoc]
theorem GapAt.cut {l : List Nat} {k : Nat} (h : GapAt l k) (hp : p2 (l.drop k) 47 47 = true) : GapAt l (k + (cnt (fun x => x != 10) (l.drop k) + 1)) := by
  intro n
  have h2 : (l.drop k).head? = some 47 ∧ (l.drop k).tail.head? = some 47 := by
    unfold p2 at hp
    split at hp
    · next e => rw [e]; simp at hp; rw [hp.1, hp.2]; exact ⟨rfl, rfl⟩
    · cases hp
  rw [h n, toks_cut _ _ h2.1 h2.2]
  generalize cnt (fun x => x != 10) (l.drop k) + 1 = q
  rw [take_more l k q, nls_append, List.drop_drop, Nat.add_assoc]
theorem gap_begins (l : List Nat) (k : Nat) (hp : p2 (l.drop (k + cnt isW (l.drop k))) 47 47 = false) : l.drop (k + cnt isW (l.drop k)) = [] ∨ Begins (l.drop (k + cnt isW (l.drop k))) := by
  rw [← List.drop_drop] at hp ⊢
  generalize hm : l.drop k = m at *
  by_cases he : m.drop (cnt isW m) = []
  · exact .inl he
  · refine .inr ⟨he, ?_, ?_⟩
    · have hlt : cnt isW m < m.length := by
        rcases Nat.lt_or_ge (cnt isW m) m.length with h | h
        · exact h
        · exact absurd (List.drop_eq_nil_of_le h) he
      have hs := cnt_stop isW m hlt
      rw [drop_at _ _ hlt]
      exact hs
    · rintro ⟨h1, h2⟩
      cases hd : m.drop (cnt isW m) with
      | nil => exact he hd
      | cons a r =>
        rw [hd] at h1 h2 hp
        simp at h1
        cases r with
        | nil => simp at h2
        | cons b r => simp at h2; subst h1 h2; simp [p2] at hp
/-- A function that returns the rest behind a gap. -/
def RetGap (w : World) (l : List Nat) (e : Ending) (w' : World) : Prop := ∃ k, k ≤ l.length ∧ e = .returned (.string (bs (l.drop k))) ∧ GapAt l k ∧ (l.drop k = [] ∨ Begins (l.drop k)) ∧ Up w w'
set_option maxRecDepth 100000 in
set_option maxHeartbeats 2000000 in
theorem behindGap_any (s : ByteArray) (w : World) (hs : s.size ≤ 100000) (hTab : Tabs w) : Calls Tryd.prog 28 #[.string s] w (RetGap w (by_ s)) := by
  have HTab := hide hTab
  clear hTab
  obtain ⟨l, Hl⟩ : ∃ l, Hid (l = by_ s) := ⟨_, rfl⟩
  have Hs : Hid (s = bs l) := by show _ = _; rw [Hl.out, bs_by]
  have Hlt : Hid (∀ x ∈ l, x < 256) := by rw [Hl.out]; exact by_lt s
  have hll : l.length ≤ 100000 := by rw [Hl.out, by_len]; exact hs
  rw [← Hl.out]
  go_enter Tryd.func28, Tryd.ntmps28
  go_wp2
  go_loopw [0] (fun v wr => ∃ k : Nat, k ≤ l.length ∧ v = .string (bs (l.drop k)) ∧ GapAt l k ∧ Up w wr) (fun v _ => strLen v)
  case atStart => exact ⟨0, by omega, by rw [Hs.out]; rfl, fun n => rfl, Up.refl _⟩
  case round =>
    obtain ⟨k, hk, rfl, HG, hup⟩ := hrel
    have HG := hide HG
    obtain ⟨t, Ht⟩ : ∃ t, Hid (t = bs (l.drop k)) := ⟨_, rfl⟩
    rw [← Ht.out]
    have hbt : Hid (by_ t = l.drop k) := by show _ = _; rw [Ht.out]; exact by_bs _ (fun x hx => Hlt.out x (List.mem_of_mem_drop hx))
    obtain ⟨a, Ha⟩ : ∃ a, Hid (a = cnt isW (l.drop k)) := ⟨_, rfl⟩
    have hak : k + a ≤ l.length := by rw [Ha.out]; have := cnt_le isW (l.drop k); rw [List.length_drop] at this; omega
    have HG2 : Hid (GapAt l (k + a)) := by show GapAt _ _; rw [Ha.out]; exact HG.out.white
    obtain ⟨u, Hu⟩ : ∃ u, Hid (u = bs (l.drop (k + a))) := ⟨_, rfl⟩
    have hbu : Hid (by_ u = l.drop (k + a)) := by show _ = _; rw [Hu.out]; exact by_bs _ (fun x hx => Hlt.out x (List.mem_of_mem_drop hx))
    have hus : u.size ≤ 100000 := by rw [← by_len, hbu.out, List.length_drop]; omega
    have cT : ∀ W, Calls Tryd.prog 43 #[.string t, .string ⟨#[32, 9, 13, 10]⟩] W fun e w' => e = .returned (.string u) ∧ Up W w' := fun W => by
      have h := trimLeft_any t W
      rw [hbt.out, ← Ha.out, List.drop_drop, ← Hu.out] at h
      exact h
    have hlen : strLen (.string t) = l.length - k := by rw [Ht.out, strLen_bs, List.length_drop]
    have Hlen := hide hlen
    clear hlen
    by_cases hp : p2 (l.drop (k + a)) 47 47 = true
    · have P0 : Hid (p2 (by_ u) 47 47 = true) := by show _ = _; rw [hbu.out]; exact hp
      obtain ⟨b, Hb⟩ : ∃ b, Hid (b = cnt (fun x => x != 10) (l.drop (k + a)) + 1) := ⟨_, rfl⟩
      have HG3 : Hid (GapAt l (k + a + b)) := by show GapAt _ _; rw [Hb.out]; exact HG2.out.cut hp
      have hka : k + a < l.length := by
        rcases Nat.lt_or_ge (k + a) l.length with h | h
        · exact h
        · rw [List.drop_eq_nil_of_le h] at hp; cases hp
      have hb1 : 1 ≤ b := by rw [Hb.out]; omega
      have hcut : Hid (∀ W, Tabs W → Calls Tryd.prog 45 #[.string u, .string ⟨#[10]⟩] W (RetCut W (l.drop (k + a + b)))) := fun W hT => by
        have h := cut_any u W hus hT
        rw [hbu.out, ← Hb.out, List.drop_drop] at h
        exact h
      clear hp
      go_wp2_with fail
      refine (cT _).mono ?_
      rintro e w2 ⟨rfl, hu2⟩
      go_wp2_with fail
      refine (hasPre u 47 47 (by decide) (by decide) _ rfl _).mono ?_
      rw [P0.out]
      rintro e w' ⟨rfl, rfl⟩
      go_wp2_with fail
      refine (hcut.out _ (HTab.out.up (hup.trans hu2))).mono ?_
      rintro e w3 ⟨x1, x2, rfl, hu3⟩
      go_wp2
      go_roundw
      case rel =>
        rcases Nat.lt_or_ge (k + a + b) l.length with h | h
        · exact ⟨k + a + b, by omega, rfl, HG3.out, (hup.trans hu2).trans hu3⟩
        · refine ⟨l.length, by omega, by rw [List.drop_eq_nil_of_le h, List.drop_length], fun n => ?_, (hup.trans hu2).trans hu3⟩
          have h3 := HG3.out n
          rw [List.drop_eq_nil_of_le h, List.take_of_length_le h] at h3
          rw [List.drop_length, List.take_length]
          exact h3
      case measure => rw [strLen_bs, Hlen.out, List.length_drop]; omega
    · have P0 : Hid (p2 (by_ u) 47 47 = false) := by show _ = _; rw [hbu.out]; exact Bool.eq_false_iff.2 hp
      have HB : Hid (l.drop (k + a) = [] ∨ Begins (l.drop (k + a))) := by
        show _ ∨ _
        have hp' := Bool.eq_false_iff.2 hp
        rw [Ha.out] at hp' ⊢
        exact gap_begins l k hp'
      clear hp
      go_wp2_with fail
      refine (cT _).mono ?_
      rintro e w2 ⟨rfl, hu2⟩
      go_wp2_with fail
      refine (hasPre u 47 47 (by decide) (by decide) _ rfl _).mono ?_
      rw [P0.out]
      rintro e w' ⟨rfl, rfl⟩
      go_wp2
      go_ret
      exact ⟨k + a, hak, by rw [← Hu.out]; rfl, HG2.out, HB.out, hup.trans hu2⟩
end Go.Proofs.YtnhncakkbfjdjaaDoor
