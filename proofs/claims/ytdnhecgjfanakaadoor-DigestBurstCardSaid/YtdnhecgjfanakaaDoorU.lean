/- Walk: the law on bursts. -/
import Derived.Test.YtdnhecgjfanakaaDoorT
import Derived.IntWalk
namespace Go.Proofs.YtdnhecgjfanakaaDoor
open Go.RowKit

/-- A row of bytes that may be written. -/
structure BR (w : World) (g n : Nat) (l : List Nat) : Prop where
  len : l.length = n
  lt : g < w.heap.size
  cell : ∀ j, j < n → w.cell? ⟨g, j, none⟩ = some (.int .u8 ((l.getD j 0 : Nat) : Int))
  free : ∀ j, j < n → w.frozen? ⟨g, j, none⟩ = false
theorem BR.set {w : World} {g n : Nat} {l : List Nat} (h : BR w g n l) (j x : Nat) (hj : j < n) : BR (w.setCell ⟨g, j, none⟩ (.int .u8 (x : Int))) g n (l.set j x) := by
  refine ⟨by rw [List.length_set]; exact h.len, by simpa using h.lt, fun i hi => ?_, fun i hi => by rw [World.frozen?_setCell]; exact h.free i hi⟩
  by_cases e : j = i
  · subst e
    rw [World.cell?_setCell_same _ _ _ (h.cell j hj)]
    have : j < l.length := by rw [h.len]; exact hj
    simp [List.getD, this]
  · rw [World.cell?_setCell_other _ _ _ _ (fun e2 => e (by have := congrArg Addr.off e2; simpa using this)), h.cell i hi]
    simp [List.getD, List.getElem?_set_ne e]
theorem BR.drew {w : World} {g n : Nat} {l : List Nat} (h : BR w g n l) : BR w.drew g n l := ⟨h.len, h.lt, h.cell, h.free⟩
theorem BR.lim {w : World} {g n : Nat} {l : List Nat} (h : BR w g n l) : Lim w (some ⟨g, 0, none⟩) l := by
  refine .inr ⟨_, rfl, h.lt, fun j x hx => ?_⟩
  have hj := (List.getElem?_eq_some_iff.1 hx).1
  have ha : ((⟨g, 0, none⟩ : Addr).add j) = ⟨g, j, none⟩ := by unfold Addr.add; split <;> simp_all
  rw [ha, h.cell j (by rw [← h.len]; exact hj)]
  simp [List.getD, hx]
/-- The bytes of a string in a new row. -/
theorem wp_bytes {w : World} {ops : Array Oper} {rest : List Oper} {o : Oper} {a : Act} {Q : Exit → Act → World → Prop} (hgd : o.guard = none) (x : Operand) (ho : o.op = .convert 9 35 x) (s : ByteArray) (hx : a.eval x = .string s)
    (h : ∀ w' c, BR w' w.heap.size s.size (by_ s) → Up w w' → wpList Tryd.prog ops Q rest (a.put o.dst (.slice (some ⟨w.heap.size, 0, none⟩) s.size c)) w') : wpList Tryd.prog ops Q (o :: rest) a w := by
  have hr := run_bytes_of_string w 9 35 5 s Tryd.underlying9 Tryd.underlying35 Tryd.underlying5
  have hb : ((w.drew.alloc (.cells (bytesRow s (grownCap w s.size 0 5)) 5 ((bytesRow s (grownCap w s.size 0 5)).size, (bytesRow s (grownCap w s.size 0 5)).size + 1)))).heap[w.heap.size]? = some (.cells (bytesRow s (grownCap w s.size 0 5)) 5 ((bytesRow s (grownCap w s.size 0 5)).size, (bytesRow s (grownCap w s.size 0 5)).size + 1)) := heap_alloc_new w.drew _
  have hup : Up w ((w.drew.alloc (.cells (bytesRow s (grownCap w s.size 0 5)) 5 ((bytesRow s (grownCap w s.size 0 5)).size, (bytesRow s (grownCap w s.size 0 5)).size + 1)))) := (Up.refl w).drew.alloc _
  have hlt : w.heap.size < ((w.drew.alloc (.cells (bytesRow s (grownCap w s.size 0 5)) 5 ((bytesRow s (grownCap w s.size 0 5)).size, (bytesRow s (grownCap w s.size 0 5)).size + 1)))).heap.size := by simp
  generalize hC : grownCap w s.size 0 5 = C at hr hb hup hlt
  generalize (w.drew.alloc (.cells (bytesRow s C) 5 ((bytesRow s C).size, (bytesRow s C).size + 1))) = w' at hr hb hup hlt
  have hBR : BR w' w.heap.size s.size (by_ s) := by
    have hat : ∀ j, j < s.size → (bytesRow s C)[j]? = some (.int .u8 (((by_ s).getD j 0 : Nat) : Int)) := fun j hj => by
      rw [bytesRow_at s C j hj, ← by_get s j hj]
      rfl
    refine ⟨by_len s, hlt, fun j hj => by simp [World.cell?, hb, hat j hj], fun j hj => ?_⟩
    have h2 := (Array.getElem?_eq_some_iff.1 (hat j hj)).1
    simp [World.frozen?, hb]
    omega
  have h2 := h w' C hBR hup
  refine wpList_plain hgd fun K hK => ?_
  unfold Oper.wp
  simp [execOp, ho, hx, hr, Result.andThen]
  exact hK _ _ h2
/-- Some bytes from place i on are changed. -/
def chg (l : List Nat) (i V : Nat) : Nat → List Nat
  | 0 => l
  | j + 1 => (chg l i V j).set (i + j) ((chg l i V j).getD (i + j) 0 ^^^ byt j V)
theorem chg_len (l : List Nat) (i V : Nat) : ∀ j, (chg l i V j).length = l.length
  | 0 => rfl
  | j + 1 => by show (List.set _ _ _).length = _; rw [List.length_set]; exact chg_len l i V j
theorem chg_lt {l : List Nat} (h : ∀ x ∈ l, x < 256) (i V : Nat) : ∀ j, ∀ x ∈ chg l i V j, x < 256
  | 0 => h
  | j + 1 => by
    intro x hx
    have ih := chg_lt h i V j
    rcases List.mem_or_eq_of_mem_set hx with h1 | h1
    · exact ih x h1
    · rw [h1]
      exact Nat.xor_lt_two_pow (n := 8) (getD_lt ih _) (Nat.mod_lt _ (by decide))
theorem byt_i {x : Nat} (hx : x < 256) (V j : Nat) : bits .xor .u8 (x : Int) ((V : Int) / 2 ^ (8 * j) % 256) = ((x ^^^ byt j V : Nat) : Int) := by
  have e : ((V : Int) / 2 ^ (8 * j) % 256) = ((byt j V : Nat) : Int) := by
    unfold byt
    rw [show (256 : Nat) ^ j = 2 ^ (8 * j) by rw [Nat.pow_mul]]
    simp
  rw [e]
  exact xor8_n hx (Nat.mod_lt _ (by decide))
theorem set_app (p r : List Nat) (j x : Nat) : (p ++ r).set (p.length + j) x = p ++ r.set j x := by
  rw [List.set_append_right _ _ (by omega), Nat.add_sub_cancel_left]
theorem get_app (p r : List Nat) (j : Nat) : (p ++ r).getD (p.length + j) 0 = r.getD j 0 := by
  rw [List.getD, List.getElem?_append_right (by omega), Nat.add_sub_cancel_left]; rfl
theorem chg_app (p r : List Nat) (V : Nat) : ∀ j, chg (p ++ r) p.length V j = p ++ chg r 0 V j
  | 0 => rfl
  | j + 1 => by
    show (chg (p ++ r) p.length V j).set _ _ = p ++ (chg r 0 V j).set _ _
    rw [chg_app p r V j, set_app, get_app, Nat.zero_add]
theorem chg_five (l : List Nat) (i V : Nat) (h : i + 5 ≤ l.length) : chg l i V 5 = l.take i ++ xl ((l.drop i).take 5) [byt 0 V, byt 1 V, byt 2 V, byt 3 V, byt 4 V] ++ l.drop (i + 5) := by
  have hl : l = l.take i ++ l.drop i := (List.take_append_drop i l).symm
  have hi : (l.take i).length = i := by rw [List.length_take]; omega
  have h2 := chg_app (l.take i) (l.drop i) V 5
  rw [hi, List.take_append_drop] at h2
  rw [h2, List.append_assoc, ← List.drop_drop]
  have h5 : 5 ≤ (l.drop i).length := by rw [List.length_drop]; omega
  generalize l.drop i = r at h5
  match r, h5 with
  | a :: b :: c :: d :: e :: t, _ => rfl
set_option maxRecDepth 1000000 in
set_option maxHeartbeats 8000000 in
theorem burstW (s : ByteArray) (at_ c : Int) (w : World) (hT : Tabs w) (hs : s.size ≤ 9223372036854775807) (ha : (Lit.int .u16 at_).wf = true) (hc : (Lit.int .u32 c).wf = true) : Calls Tryd.prog 5 #[.string s, .int .u16 at_, .int .u32 c] w fun e w' => e = .returned (.bool true) ∧ Up w w' := by
  have ha2 : 0 ≤ at_ ∧ at_ ≤ 65535 := by
    have h1 : IntKind.u16.min = 0 := rfl
    have h2 : IntKind.u16.max = 65535 := rfl
    simp [Lit.wf, h1, h2] at ha
    omega
  have hc2 : 0 ≤ c ∧ c ≤ 4294967295 := by
    have h1 : IntKind.u32.min = 0 := rfl
    have h2 : IntKind.u32.max = 4294967295 := rfl
    simp [Lit.wf, h1, h2] at hc
    omega
  obtain ⟨p, rfl⟩ : ∃ p : Nat, at_ = (p : Int) := ⟨at_.toNat, by omega⟩
  obtain ⟨q, rfl⟩ : ∃ q : Nat, c = (q : Int) := ⟨c.toNat, by omega⟩
  clear ha hc
  have HT := hide hT
  clear hT
  by_cases h : 5 ≤ s.size ∧ s.size ≤ 2000 ∧ q ≠ 0
  · obtain ⟨h5, h2000, hq⟩ := h
    obtain ⟨n, Hn⟩ : ∃ n, Hid (n = s.size) := ⟨_, rfl⟩
    have t1 : decide ((s.size : Int) < 5) = false := decide_eq_false (by omega)
    have t2 : decide ((2000 : Int) < s.size) = false := decide_eq_false (by omega)
    have t3 : ((q : Int) == 0) = false := by rw [beq_eq_false_iff_ne]; omega
    go_enter Tryd.func5, Tryd.ntmps5
    go_wp2_with fail
    refine (awake_any _ HT.out).mono ?_
    rintro e w1 ⟨rfl, hu1⟩
    obtain ⟨i, Hi⟩ : ∃ i, Hid (i = p / 8 % (s.size - 4)) := ⟨_, rfl⟩
    obtain ⟨k, Hk⟩ : ∃ k, Hid (k = p % 8) := ⟨_, rfl⟩
    have ei : (p : Int) / 8 % ((s.size : Int) - 4) = (i : Int) := by
      rw [Hi.out, Int.natCast_emod, Int.natCast_sub (by omega)]; rfl
    have ek : (p : Int) % 8 = (k : Int) := by rw [Hk.out]; rfl
    have hk : k ≤ 7 := by rw [Hk.out]; omega
    have hi : i + 5 ≤ s.size := by rw [Hi.out]; have := Nat.mod_lt (p / 8) (show 0 < s.size - 4 by omega); omega
    obtain ⟨V, HV⟩ : ∃ V, Hid (V = q * 2 ^ k) := ⟨_, rfl⟩
    have hVlt : V < 18446744073709551616 := by
      rw [HV.out]
      have : 2 ^ k ≤ 2 ^ 7 := Nat.pow_le_pow_right (by decide) hk
      exact Nat.lt_of_le_of_lt (Nat.mul_le_mul (show q ≤ 4294967295 by omega) this) (by decide)
    go_wp2_with (refine wp_bytes rfl _ rfl s rfl ?_; intro w2 cp hbr2 hup2)
    go_loopw [40, 10] (fun c _ wr => ∃ j : Nat, c = .int .i64 j ∧ j ≤ 5 ∧ BR wr w1.heap.size s.size (chg (by_ s) i V j) ∧ Up w1 wr) (fun c _ _ => 5 - (intOf c).toNat)
    case atStart => exact ⟨0, rfl, by omega, hbr2, hup2⟩
    case round =>
      clear hbr2 hup2
      obtain ⟨j, rfl, hj, hbr, hup⟩ := hrel
      by_cases hlt : j < 5
      · have hij : i + j < s.size := by omega
        obtain ⟨x, Hx⟩ : ∃ x, Hid (x = (chg (by_ s) i V j).getD (i + j) 0) := ⟨_, rfl⟩
        have cx := hbr.cell (i + j) hij
        rw [← Hx.out] at cx
        have fx := hbr.free (i + j) hij
        obtain ⟨t, Ht⟩ : ∃ t, Hid (t = i + j) := ⟨_, rfl⟩
        obtain ⟨m, Hm⟩ : ∃ m, Hid (m = 8 * j) := ⟨_, rfl⟩
        rw [← Ht.out] at cx fx
        have hts : t < s.size := by rw [Ht.out]; exact hij
        have t0 : (0 : Int) ≤ (t : Int) := by omega
        have t1' : (t : Int) < (s.size : Int) := by omega
        have k0 : (0 : Int) ≤ (k : Int) := by omega
        have k1 : (k : Int) ≤ 64 := by omega
        have m0 : (0 : Int) ≤ (m : Int) := by omega
        have m1 : (m : Int) ≤ 64 := by rw [Hm.out]; omega
        have hj5 : decide ((j : Int) < 5) = true := decide_eq_true (by omega)
        have hx256 : x < 256 := by rw [Hx.out]; exact getD_lt (chg_lt (by_lt s) i V j) _
        have eb : bits .xor .u8 (x : Int) ((V : Int) / 2 ^ m % 256) = ((x ^^^ byt j V : Nat) : Int) := by rw [Hm.out]; exact byt_i hx256 V j
        have HX : Hid (chg (by_ s) i V (j + 1) = (chg (by_ s) i V j).set t (x ^^^ byt j V)) := by show List.set _ _ _ = _; rw [← Ht.out] at Hx ⊢; rw [← Hx.out]
        have eij : IntKind.i64.wrap ((i : Int) + (j : Int)) = (t : Int) := by rw [IntWalk.i64_in _ (by omega), Ht.out]; omega
        have em : IntKind.i64.wrap (8 * (j : Int)) = (m : Int) := by rw [IntWalk.i64_in _ (by omega), Hm.out]; omega
        have eV : IntKind.u64.wrap ((q : Int) * 2 ^ k) = (V : Int) := by rw [IntKind.wrap_u64, show (q : Int) * 2 ^ k = ((q * 2 ^ k : Nat) : Int) by simp, ← HV.out]; omega
        go_wp2
        go_region
        all_goals
          go_wp2
          go_roundw
          case rel => exact ⟨j + 1, by go_num, by omega, by rw [HX.out]; exact (hbr.set t (x ^^^ byt j V) hts).drew, (hup.setCell (Nat.le_refl _) _).drew⟩
          case measure => simp [intOf]; omega
      · have hj5 : decide ((j : Int) < 5) = false := decide_eq_false (by omega)
        obtain ⟨L, HL⟩ : ∃ L, Hid (L = chg (by_ s) i V j) := ⟨_, rfl⟩
        have HL2 : Hid (L = (by_ s).take i ++ xl (((by_ s).drop i).take 5) [byt 0 V, byt 1 V, byt 2 V, byt 3 V, byt 4 V] ++ (by_ s).drop (i + 5)) := by
          show L = _
          rw [HL.out, show j = 5 by omega]
          exact chg_five _ _ _ (by rw [by_len]; exact hi)
        have hLl : ∀ x ∈ L, x < 256 := by rw [HL.out]; exact chg_lt (by_lt s) i V j
        rw [← HL.out] at hbr
        have hcv := run_str wr _ s.size cp L hbr.lim hbr.len hLl
        have hne : crc L ≠ crc (by_ s) := by
          have h1 := crc_burst ((by_ s).take i) (((by_ s).drop i).take 5) ((by_ s).drop (i + 5)) q k (fun b hb => by_lt s b (List.mem_of_mem_take hb)) (fun b hb => by_lt s b (List.mem_of_mem_drop (List.mem_of_mem_take hb))) (fun b hb => by_lt s b (List.mem_of_mem_drop hb)) (by rw [List.length_take, List.length_drop, by_len]; omega) hq (by omega) (by omega)
          rw [← HV.out, ← HL2.out, List.append_assoc, ← List.drop_drop, List.take_append_drop, List.take_append_drop] at h1
          exact h1
        have hne2 : ((crc L : Int) != (crc (by_ s) : Int)) = true := by rw [bne_iff_ne]; omega
        have HLl := hide hLl
        have HT2 := hide ((HT.out.up hu1).up hup)
        have hLs : L.length = s.size := hbr.len
        have HLs := hide hLs
        clear hne hLl hLs hbr
        go_wp2_with fail
        refine (crc_any (bs L) _ (by rw [bs_size, HLs.out]; omega) HT2.out).mono ?_
        rw [by_bs _ HLl.out]
        rintro e w3 ⟨rfl, rfl⟩
        go_wp2_with fail
        refine (crc_any s _ (by omega) HT2.out).mono ?_
        rintro e w3 ⟨rfl, rfl⟩
        go_wp2
        go_ret
        exact ⟨by first | rfl | rw [hne2], hu1.trans hup⟩
  · have hor : s.size < 5 ∨ (5 ≤ s.size ∧ 2000 < s.size) ∨ (5 ≤ s.size ∧ s.size ≤ 2000 ∧ q = 0) := by omega
    rcases hor with h1 | ⟨h1, h2⟩ | ⟨h1, h2, rfl⟩
    · have t1 : decide ((s.size : Int) < 5) = true := decide_eq_true (by omega)
      clear h
      go_enter Tryd.func5, Tryd.ntmps5
      go_wp2_with fail
      refine (awake_any _ HT.out).mono ?_
      rintro e w1 ⟨rfl, hu1⟩
      go_wp2_with fail
      refine (awake_any _ (HT.out.up hu1)).mono ?_
      rintro e w2 ⟨rfl, hu2⟩
      go_wp2
      go_ret
      exact ⟨rfl, hu1.trans hu2⟩
    · have t1 : decide ((s.size : Int) < 5) = false := decide_eq_false (by omega)
      have t2 : decide ((2000 : Int) < s.size) = true := decide_eq_true (by omega)
      clear h
      go_enter Tryd.func5, Tryd.ntmps5
      go_wp2_with fail
      refine (awake_any _ HT.out).mono ?_
      rintro e w1 ⟨rfl, hu1⟩
      go_wp2_with fail
      refine (awake_any _ (HT.out.up hu1)).mono ?_
      rintro e w2 ⟨rfl, hu2⟩
      go_wp2
      go_ret
      exact ⟨rfl, hu1.trans hu2⟩
    · have t1 : decide ((s.size : Int) < 5) = false := decide_eq_false (by omega)
      have t2 : decide ((2000 : Int) < s.size) = false := decide_eq_false (by omega)
      clear h
      go_enter Tryd.func5, Tryd.ntmps5
      go_wp2_with fail
      refine (awake_any _ HT.out).mono ?_
      rintro e w1 ⟨rfl, hu1⟩
      go_wp2_with fail
      refine (awake_any _ (HT.out.up hu1)).mono ?_
      rintro e w2 ⟨rfl, hu2⟩
      go_wp2
      go_ret
      exact ⟨rfl, hu1.trans hu2⟩
end Go.Proofs.YtdnhecgjfanakaaDoor
