/- Walks: digits, Sum, Hex, Short, and Sum of a hash. -/
import Derived.Test.YtdnhecgjfanakaaDoorR
import Derived.Deep.RegionLaw
namespace Go.Proofs.YtdnhecgjfanakaaDoor
open Go.RowKit

def hexS : ByteArray := ⟨#[48, 49, 50, 51, 52, 53, 54, 55, 56, 57, 97, 98, 99, 100, 101, 102]⟩
theorem digit_lt {x : Nat} (h : x < 16) : digit x < 256 := by unfold digit; split <;> omega
theorem ix_hex (x d : Nat) (hx : x < 16) (hd : Hid (d = digit x)) (w : World) : (Instr.index 9 (.string ⟨#[48, 49, 50, 51, 52, 53, 54, 55, 56, 57, 97, 98, 99, 100, 101, 102]⟩) (.int .u8 (x : Int))).run Tryd.prog w = .ok (.int .u8 (d : Int)) w := by
  rw [hd.out]
  have : x = 0 ∨ x = 1 ∨ x = 2 ∨ x = 3 ∨ x = 4 ∨ x = 5 ∨ x = 6 ∨ x = 7 ∨ x = 8 ∨ x = 9 ∨ x = 10 ∨ x = 11 ∨ x = 12 ∨ x = 13 ∨ x = 14 ∨ x = 15 := by omega
  rcases this with rfl | rfl | rfl | rfl | rfl | rfl | rfl | rfl | rfl | rfl | rfl | rfl | rfl | rfl | rfl | rfl <;> (simp [Instr.index, run_underlying Tryd.underlying9, digit, go_sem]; try rfl)
theorem and8_15 (a : Nat) (ha : a < 256) : bits .and .u8 (a : Int) 15 = ((a % 16 : Nat) : Int) := by
  have h1 : (BitVec.ofInt 8 (a : Int)).toNat = a := by rw [BitVec.ofInt_natCast, BitVec.toNat_ofNat]; exact Nat.mod_eq_of_lt (by omega)
  have h2 : (BitVec.ofInt 8 15).toNat = 15 := by decide
  show IntKind.u8.wrap ((BitVec.ofInt 8 (a : Int) &&& BitVec.ofInt 8 15).toNat : Int) = _
  rw [BitVec.toNat_and, h1, h2, show ∀ n : Int, IntKind.u8.wrap n = n % 256 from fun n => by simp [IntKind.wrap, IntKind.bits, IntKind.signed], Nat.and_two_pow_sub_one_eq_mod a 4]
  omega
theorem hexB_snoc (l : List Nat) (b : Nat) : hexB (l ++ [b]) = hexB l ++ [digit (b / 16), digit (b % 16)] := by unfold hexB; rw [List.flatMap_append]; rfl
theorem hexB_lt {l : List Nat} (h : ∀ x ∈ l, x < 256) : ∀ x ∈ hexB l, x < 256 := by
  intro x hx
  unfold hexB at hx
  rw [List.mem_flatMap] at hx
  obtain ⟨y, hy, h2⟩ := hx
  have := h y hy
  simp at h2
  rcases h2 with h2 | h2 <;> rw [h2] <;> exact digit_lt (by omega)
theorem lim_two (w : World) (x y : Nat) (X Y : Int) (hX : X = (x : Int)) (hY : Y = (y : Int)) : Lim (w.alloc (.cells #[.int .u8 X, .int .u8 Y] 5)) (some ⟨w.heap.size, 0, none⟩) [x, y] := by
  subst hX hY
  exact Or.inr ⟨_, rfl, by simp, fun j u hj => by
    match j, hj with
    | 0, hj => simp at hj; subst hj; simp [Addr.add]
    | 1, hj => simp at hj; subst hj; simp [Addr.add]⟩
/-- append onto a row of the call's own, as one step of a region that draws its order. -/
theorem step_app {ops : Array Oper} {o : Oper} {a : Act} {w : World} {K : Act → World → Prop} {Q : Exit → Act → World → Prop} {E : Prop} (hgd : o.guard = none) (s x : Operand)
    (ho : o.op = .call { callee := .builtin .append, args := #[s, x], argTypes := #[35, 35] })
    (base : Nat) (v : Value) (n : Nat) (xs : List Nat) (hs : a.eval s = v) (hown : Own w base v n xs) (A : Option Addr) (m c : Nat) (l : List Nat) (hx : a.eval x = .slice A m c) (hl : l.length = m) (hA : Lim w A l) (hb : n + m ≤ 1000000) (hbase : base ≤ w.heap.size)
    (h : ∀ v' w', Own w' base v' (n + m) (xs ++ l) → w.grownBy w' v.ownBlock → K (a.put o.dst v') w') : if Region.wanted o (yielded ops a.tmps) = true then Oper.wp Tryd.prog o a w K Q else E := by
  have hw : Region.wanted o (yielded ops a.tmps) = true := by simp [Region.wanted, hgd]
  rw [if_pos hw]
  obtain ⟨v', w', hr, h2, h3⟩ := run_app w base o.type v n xs hown A m c l hl hA hb hbase
  unfold Oper.wp
  simp [execOp, ho, resolve, invoke, builtin, hs, hx, hr, Result.andThen]
  exact h v' w' h2 h3
set_option maxRecDepth 1000000 in
set_option maxHeartbeats 4000000 in
theorem digits_any (L : List Nat) (w : World) (hL : L.length = 32) (hb : ∀ x ∈ L, x < 256) : Calls Tryd.prog 17 #[.agg (u8a L)] w (RetStr w (bs (hexB L))) := by
  have HL := hide hL
  have HB := hide hb
  clear hL hb
  go_enter Tryd.func17, Tryd.ntmps17
  go_wp2_with (first
    | (refine wp_mkc rfl _ _ rfl w.heap.size 0 64 .i64 .i64 0 64 rfl rfl rfl rfl (by omega) (by omega) (by simp) ?_; intro w1 hown1 hup1 hlt1; have hup1' : Up w w1 := ((Up.refl w).alloc _).trans hup1; have hbk1 := (Bk.new w 46 (u8a L)).up hup1)
    | (refine wpList_load_row rfl 46 _ rfl w.heap.size rfl 46 (u8a L) (0, 0) _ hbk1 Tryd.underlying46 rfl (by rw [Tryd.info46, u8a_size, HL.out]) ?_))
  simp only [World.size_alloc] at hown1
  go_loopw [8, 3, 5] (fun c v _ wr => ∃ (k m : Nat), c = .int .i64 k ∧ k ≤ 32 ∧ m = 2 * k ∧ Own wr w.heap.size v m (hexB (L.take k)) ∧ Up w wr) (fun c _ _ _ => 32 - (intOf c).toNat)
  case atStart => exact ⟨0, 0, rfl, by omega, rfl, hown1, hup1'⟩
  case round =>
    clear hown1 hup1 hup1' hlt1 hbk1
    obtain ⟨k, m, rfl, hk, hm, hown, hup⟩ := hrel
    have hsz := hup.size
    have HM := hide hm
    clear hm
    by_cases hlt : k < 32
    · obtain ⟨b, Hb⟩ : ∃ b, Hid (b = L.getD k 0) := ⟨_, rfl⟩
      have hb256 : b < 256 := by rw [Hb.out]; exact getD_lt HB.out k
      have hix : ∀ W : World, (Instr.index 46 (.agg (u8a L)) (.int .i64 (k : Int))).run Tryd.prog W = .ok (.int .u8 (b : Int)) W := fun W => ix_arr32 L k b HL.out hlt Hb W
      obtain ⟨h, Hh⟩ : ∃ h, Hid (h = b / 16) := ⟨_, rfl⟩
      obtain ⟨lo, Hlo⟩ : ∃ h, Hid (h = b % 16) := ⟨_, rfl⟩
      have eh : (b : Int) / 16 = (h : Int) := by rw [Hh.out]; rfl
      have el : bits .and .u8 (b : Int) 15 = (lo : Int) := by rw [Hlo.out]; exact and8_15 b hb256
      obtain ⟨x, Hx⟩ : ∃ x, Hid (x = digit h) := ⟨_, rfl⟩
      obtain ⟨y, Hy⟩ : ∃ x, Hid (x = digit lo) := ⟨_, rfl⟩
      have i1 : ∀ W : World, (Instr.index 9 (.string ⟨#[48, 49, 50, 51, 52, 53, 54, 55, 56, 57, 97, 98, 99, 100, 101, 102]⟩) (.int .u8 (h : Int))).run Tryd.prog W = .ok (.int .u8 (x : Int)) W := fun W => ix_hex h x (by rw [Hh.out]; omega) Hx W
      have i2 : ∀ W : World, (Instr.index 9 (.string ⟨#[48, 49, 50, 51, 52, 53, 54, 55, 56, 57, 97, 98, 99, 100, 101, 102]⟩) (.int .u8 (lo : Int))).run Tryd.prog W = .ok (.int .u8 (y : Int)) W := fun W => ix_hex lo y (by rw [Hlo.out]; omega) Hy W
      have HS : Hid (hexB (L.take (k + 1)) = hexB (L.take k) ++ [x, y]) := by
        show _ = _
        have : L.take (k + 1) = L.take k ++ [b] := by
          rw [List.take_add_one]
          have hkl : k < L.length := by rw [HL.out]; exact hlt
          rw [Hb.out]
          simp [List.getD, hkl]
        rw [this, hexB_snoc, Hx.out, Hy.out, Hh.out, Hlo.out]
      have hown1 : Own wr.drew w.heap.size _ m (hexB (L.take k)) := hown.up ((Up.refl wr).drew)
      have hm2 : m ≤ 64 := by rw [HM.out]; omega
      go_wp2
      go_region_law (refine step_app rfl _ _ rfl w.heap.size _ m _ rfl (hown1.allo _) (some ⟨wr.heap.size, 0, none⟩) 2 2 [x, y] rfl rfl (lim_two _ _ _ _ _ rfl rfl) (by omega) (by simp; omega) ?_; intro v1 w1 hown2 hgrow2)
      all_goals
        go_wp2
        go_roundw
        case rel => exact ⟨k + 1, m + 2, by go_num, by omega, by rw [HM.out]; omega, by rw [HS.out]; exact hown2, (hown1.allo _).grownB ((hup.drew).alloc _) hgrow2 (by simp; omega)⟩
        case measure => simp [intOf]; omega
    · have hge : decide ((k : Int) < 32) = false := decide_eq_false (by omega)
      have hE : L.take k = L := List.take_of_length_le (by rw [HL.out]; omega)
      rw [hE] at hown
      obtain ⟨A1, c1, rfl, _, hlim1, _⟩ := hown.lim
      have hcv := run_str wr A1 m c1 _ hlim1 hown.len (hexB_lt HB.out)
      clear hlim1 hown hE
      go_wp2
      go_ret
      exact ⟨rfl, hup⟩
theorem sumL_lt (l : List Nat) : ∀ x ∈ sumL l, x < 256 := by rw [sumL_eq]; exact sumB_lt _
theorem sumL_len (l : List Nat) : (sumL l).length = 32 := by rw [sumL_eq]; rfl
theorem by_nil_add (s : ByteArray) : [] ++ by_ s = by_ s := rfl
set_option maxRecDepth 1000000 in
set_option maxHeartbeats 4000000 in
theorem sum_any (s : ByteArray) (w : World) (hT : Tabs w) (hs : s.size ≤ 800000) : Calls Tryd.prog 19 #[.string s] w (RetSum w (by_ s)) := by
  have HT := hide hT
  have h3 := hT.lt
  have hlen := by_len s
  have Hlen := hide hlen
  clear hT hlen
  go_enter Tryd.func19, Tryd.ntmps19
  go_wp2_with fail
  refine (new_any _ (HT.out.up ((Up.refl w).alloc _))).mono ?_
  rintro e w1 ⟨rfl, hh1, hu1, hz1⟩
  have hup1 := ((Up.refl w).alloc _).trans hu1
  have hbR := (Bk.new w 46 _).up hu1
  simp only [World.size_alloc] at hh1
  go_wp2_with fail
  refine (write_any (w.heap.size + 1) [] s w1 hh1 (HT.out.up hup1) (by omega) (by simp; omega)).mono ?_
  rintro e w2 ⟨rfl, hh2, hg2⟩
  rw [by_nil_add] at hh2
  have hup2 := hup1.grownS hg2 (by omega)
  have hbR2 := hbR.grownO hg2 (by omega)
  go_wp2_with fail
  refine (finish_any (w.heap.size + 1) (by_ s) w2 hh2 (HT.out.up hup2) (by rw [Hlen.out]; omega)).mono ?_
  rintro e w3 ⟨rfl, hu3⟩
  have hbR3 := hbR2.up hu3
  clear hbR hbR2 hh1 hh2 hg2 hu1 hz1 hup1
  go_wp2_with (refine st_row rfl 46 _ _ rfl w.heap.size (u8a (sumL (by_ s))) rfl rfl 46 _ hbR3 (by rw [Tryd.info46, u8a_size, sumL_len]) (by rw [u8a_size, sumL_len]; rfl) (u8a_one _) ?_; intro w6 hb6 hg6 hz6)
  refine bodyPost_ret (v := .agg (u8a (sumL (by_ s)))) (results_cell_row rfl _ _ w.heap.size 46 (u8a (sumL (by_ s))) (0, 0) _ rfl hb6 Tryd.underlying46 rfl (by rw [Tryd.info46, u8a_size, sumL_len])) rfl ⟨rfl, (hup2.trans hu3).grownS hg6 (Nat.le_refl _)⟩
set_option maxHeartbeats 1000000 in
theorem hex_any (s : ByteArray) (w : World) (hT : Tabs w) (hs : s.size ≤ 800000) : Calls Tryd.prog 11 #[.string s] w (RetStr w (bs (hexL (by_ s)))) := by
  have HT := hide hT
  clear hT
  go_enter Tryd.func11, Tryd.ntmps11
  go_wp2_with fail
  refine (sum_any s _ HT.out hs).mono ?_
  rintro e w1 ⟨rfl, hu1⟩
  go_wp2_with fail
  refine (digits_any (sumL (by_ s)) _ (sumL_len _) (sumL_lt _)).mono ?_
  rintro e w2 ⟨rfl, hu2⟩
  go_wp2
  go_ret
  exact ⟨rfl, hu1.trans hu2⟩
theorem hexL_len (l : List Nat) : (hexL l).length = 64 := by
  unfold hexL hexB
  rw [List.length_flatMap]
  rw [show (sumL l).map (fun x => ([digit (x / 16), digit (x % 16)] : List Nat).length) = List.replicate 32 2 by
    rw [List.eq_replicate_iff]
    refine ⟨by rw [List.length_map, sumL_len], fun x hx => ?_⟩
    obtain ⟨y, _, rfl⟩ := List.mem_map.1 hx
    rfl]
  rfl
theorem hexL_lt (l : List Nat) : ∀ x ∈ hexL l, x < 256 := hexB_lt (sumL_lt l)
theorem bs_take (l : List Nat) (n : Nat) (h : ∀ x ∈ l, x < 256) : (bs l).extract 0 n = bs (l.take n) := by
  apply by_inj
  rw [by_extract, by_bs _ h, by_bs _ (fun x hx => h x (List.mem_of_mem_take hx))]
  simp
set_option maxHeartbeats 1000000 in
theorem short_any (s : ByteArray) (w : World) (hT : Tabs w) (hs : s.size ≤ 800000) : Calls Tryd.prog 15 #[.string s] w (RetStr w (bs ((hexL (by_ s)).take 16))) := by
  have HT := hide hT
  clear hT
  obtain ⟨t, Ht⟩ : ∃ t, Hid (t = bs (hexL (by_ s))) := ⟨_, rfl⟩
  have ht : 16 ≤ t.size := by rw [Ht.out, bs_size, hexL_len]; decide
  go_enter Tryd.func15, Tryd.ntmps15
  go_wp2_with fail
  refine (hex_any s _ HT.out hs).mono ?_
  rintro e w1 ⟨rfl, hu1⟩
  rw [← Ht.out]
  go_wp2
  go_ret
  exact ⟨by rw [← bs_take _ _ (hexL_lt _), ← Ht.out]; rfl, hu1⟩
set_option maxHeartbeats 1000000 in
theorem hsum_any (g : Nat) (l : List Nat) (w : World) (hH : HashAt w g l) (hT : Tabs w) (hlen : l.length ≤ 900000) : Calls Tryd.prog 10 #[.pointer (some ⟨g, 0, none⟩)] w (RetStr w (bs (hexL l))) := by
  have HT := hide hT
  have HH := hide hH
  clear hT hH
  go_enter Tryd.func10, Tryd.ntmps10
  go_wp2_with fail
  refine (finish_any g l _ HH.out HT.out hlen).mono ?_
  rintro e w1 ⟨rfl, hu1⟩
  go_wp2_with fail
  refine (digits_any (sumL l) _ (sumL_len _) (sumL_lt _)).mono ?_
  rintro e w2 ⟨rfl, hu2⟩
  go_wp2
  go_ret
  exact ⟨rfl, hu1.trans hu2⟩
end Go.Proofs.YtdnhecgjfanakaaDoor
