/- Walks: the state behind a block. -/
import Derived.Test.YtdnhecgjfanakaaDoorE
namespace Go.Proofs.YtdnhecgjfanakaaDoor
open Go.RowKit

theorem st_row {ops : Array Oper} {rest : List Oper} {o : Oper} {a : Act} {w : World} {Q : Exit → Act → World → Prop} (hgd : o.guard = none) (ty : TypeId) (x y : Operand) (ho : o.op = .store ty x y)
    (g : Nat) (cells : Array Value) (hx : a.eval x = .pointer (some ⟨g, 0, none⟩)) (hy : a.eval y = .agg cells)
    (t : TypeId) (old : Array Value) (hg : Bk w g t old) (hi : (Tryd.prog.info? ty).map (·.size) = some cells.size)
    (hold : old.size = cells.size) (h1 : cells.all (·.oneCell') = true)
    (h : ∀ w2, Bk w2 g t cells → w.grownBy w2 (some g) → w2.heap.size = w.heap.size → wpList Tryd.prog ops Q rest (a.put o.dst undef) w2) : wpList Tryd.prog ops Q (o :: rest) a w :=
  wpList_store_row hgd ty x y ho g cells hx hy t old hg hi hold h1 (h _ (setRow_heap _ _ _ _ _ _ hg) ⟨rfl, rfl, rfl, by rw [setRow_size]; exact Nat.le_refl _, fun k hk hne => setRow_other _ _ _ _ (fun e => hne (by rw [e]))⟩ (setRow_size _ _ _))
theorem Up.grownS {a w w' : World} {g : Nat} (h : Up a w) (hg : w.grownBy w' (some g)) (hb : a.heap.size ≤ g) : Up a w' := h.grown hg (fun k hk => by cases hk; exact hb)
theorem Tabs.grownS {w w' : World} {g : Nat} (h : Tabs w) (hg : w.grownBy w' (some g)) (hb : 3 ≤ g) : Tabs w' :=
  h.keep fun b i hbi => World.cell?_of_block (w := w) (a := ⟨b, i, none⟩) (hg.block b (Nat.lt_of_lt_of_le hbi h.lt) (fun e => by cases e; omega))
/-- What compress keeps in memory. -/
structure CW (w wr : World) (gW : Nat) (s : St) (W : List Nat) (old : Array Value) : Prop where
  blkS : Bk wr w.heap.size 40 (u32s s.list)
  blkR : Bk wr (w.heap.size + 1 + 1) 40 old
  blkW : Bk wr gW 51 (u32s W)
  tabs : Tabs wr
  up : Up w wr
theorem CW.drewN {w wr : World} {gW : Nat} {s : St} {W : List Nat} {old : Array Value} (h : CW w wr gW s W old) (n : Nat) : CW w (wr.drewN n) gW s W old :=
  ⟨h.blkS, h.blkR, h.blkW, h.tabs.up ((Up.refl _).drewN n), h.up.drewN n⟩
theorem expand_len (bl : List Nat) : (expandL bl).length = 64 := by
  have h1 : ∀ (l : List Nat) (i : Nat) (w : List Nat), (fillE l i w).length = w.length := by
    intro l
    induction l with
    | nil => intro i w; rfl
    | cons b l ih => intro i w; show (forceL _ _ : List Nat).length = _; rw [forceL_eq, ih, fillOne_len]
  have h2 : ∀ (n t : Nat) (w : List Nat), (extE n t w).length = w.length := by
    intro n
    induction n with
    | zero => intro t w; rfl
    | succ n ih => intro t w; show (force _ _ : List Nat).length = _; rw [force_eq, forceL_eq, ih, List.length_set]
  unfold expandL
  rw [h2, h1, List.length_replicate]
theorem rnd_step (ks ws : List Nat) {k : Nat} (hk : k < 64) (s : St) : rndE ks ws (64 - k) k s = rndE ks ws (64 - (k + 1)) (k + 1) (rndF ks ws k s) := by
  obtain ⟨n, hn⟩ : ∃ n, n = 64 - (k + 1) := ⟨_, rfl⟩
  unfold rndE
  rw [show 64 - k = n + 1 by omega, ← hn, iterE_succ]
theorem add_i (a b : Nat) : ((a : Int) + (b : Int)) % 4294967296 = (((a + b) % 4294967296 : Nat) : Int) := by omega
theorem ch_i {e f g : Nat} (he : e < 4294967296) (hf : f < 4294967296) (hg : g < 4294967296) : bits .xor .u32 (bits .and .u32 (e : Int) (f : Int)) (bits .and .u32 (bits .xor .u32 IntKind.u32.max (e : Int)) (g : Int)) = ((e &&& f ^^^ (4294967295 ^^^ e) &&& g : Nat) : Int) := by
  have h1 : e &&& f < 4294967296 := Nat.and_lt_two_pow (n := 32) _ hf
  have h2 : (4294967295 ^^^ e) &&& g < 4294967296 := Nat.and_lt_two_pow (n := 32) _ hg
  have h3 : 4294967295 ^^^ e < 4294967296 := Nat.xor_lt_two_pow (n := 32) (by decide) he
  rw [not_c, Nat.mod_eq_of_lt h3, and_c, and_c, Nat.mod_eq_of_lt h1, Nat.mod_eq_of_lt h2, xor_n h1 h2]
theorem maj_i {a b c : Nat} (hb : b < 4294967296) (hc : c < 4294967296) : bits .xor .u32 (bits .xor .u32 (bits .and .u32 (a : Int) (b : Int)) (bits .and .u32 (a : Int) (c : Int))) (bits .and .u32 (b : Int) (c : Int)) = ((a &&& b ^^^ a &&& c ^^^ b &&& c : Nat) : Int) := by
  have h1 : a &&& b < 4294967296 := Nat.and_lt_two_pow (n := 32) _ hb
  have h2 : a &&& c < 4294967296 := Nat.and_lt_two_pow (n := 32) _ hc
  have h3 : b &&& c < 4294967296 := Nat.and_lt_two_pow (n := 32) _ hc
  have h4 : a &&& b ^^^ a &&& c < 4294967296 := Nat.xor_lt_two_pow (n := 32) h1 h2
  rw [and_c, and_c, and_c, Nat.mod_eq_of_lt h1, Nat.mod_eq_of_lt h2, Nat.mod_eq_of_lt h3, xor_n h1 h2, xor_n h4 h3]
theorem rot_6s (x : Nat) (w : World) (hx : x < 4294967296) : Calls Tryd.prog 21 #[.int .u32 x, .int .i64 6] w fun e w' => e = .returned (.int .u32 (rr x 6 : Nat)) ∧ w' = w := (rot_6 x w hx).mono fun _ _ h => ⟨h.1, h.2.symm⟩
theorem rot_11s (x : Nat) (w : World) (hx : x < 4294967296) : Calls Tryd.prog 21 #[.int .u32 x, .int .i64 11] w fun e w' => e = .returned (.int .u32 (rr x 11 : Nat)) ∧ w' = w := (rot_11 x w hx).mono fun _ _ h => ⟨h.1, h.2.symm⟩
theorem rot_25s (x : Nat) (w : World) (hx : x < 4294967296) : Calls Tryd.prog 21 #[.int .u32 x, .int .i64 25] w fun e w' => e = .returned (.int .u32 (rr x 25 : Nat)) ∧ w' = w := (rot_25 x w hx).mono fun _ _ h => ⟨h.1, h.2.symm⟩
set_option maxRecDepth 1000000 in
set_option maxHeartbeats 8000000 in
theorem compress_any (s : St) (bl : List Nat) (w : World) (hs : s.ok) (hl : bl.length = 64) (hb : ∀ x ∈ bl, x < 256) (hT : Tabs w) : Calls Tryd.prog 16 #[.agg (u32s s.list), .agg (u8a bl)] w fun e w' => e = .returned (.agg (u32s (compressL s bl).list)) ∧ Up w w' := by
  have HL := hide hl
  have HB := hide hb
  have HT := hide hT
  have HE := hide (expand_len bl)
  have HS := hide hs
  have h3 := hT.lt
  clear hl hb hT hs
  go_enter Tryd.func16, Tryd.ntmps16
  go_wp2_with (refine wpList_load_row rfl 41 _ rfl (w.heap.size + 1) rfl 41 (u8a bl) (0, 0) _ ((Bk.new1 w _ _ (u8a bl)).alloc _) Tryd.underlying41 rfl (by rw [Tryd.info41, u8a_size, HL.out]) ?_)
  refine (expand_any bl _ HL.out HB.out).mono ?_
  rintro e w1 ⟨rfl, hu1⟩
  have hbS := (((Bk.new w 40 (u32s s.list)).alloc _).alloc _).up hu1
  have hbR := (Bk.new2 w _ _ _ _).up hu1
  have hup1 := ((((Up.refl w).alloc _).alloc _).alloc _).trans hu1
  clear hu1
  go_wp2_with (refine st_row rfl 51 _ _ rfl w1.heap.size (u32s (expandL bl)) rfl rfl 51 _ (Bk.new _ _ _) (by rw [Tryd.info51, u32s_size, HE.out]) (by rw [u32s_size, HE.out]; rfl) (u32s_one _) ?_; intro w2 hbW hgr2 hsz2)
  have hcw : CW w w2 w1.heap.size s (expandL bl) _ := ⟨(hbS.alloc _).grownO hgr2 (by have := hup1.size; have := hbS.lt; omega), (hbR.alloc _).grownO hgr2 (by have := hbR.lt; omega), hbW, ((HT.out.up hup1).up ((Up.refl _).alloc _)).grownS hgr2 (by have := hup1.size; omega), (hup1.alloc _).grownS hgr2 (by have := hup1.size; omega)⟩
  have hzR := hcw.blkR
  generalize hold : (#[.int .u32 0, .int .u32 0, .int .u32 0, .int .u32 0, .int .u32 0, .int .u32 0, .int .u32 0, .int .u32 0] : Array Value) = old at hcw hzR hbR
  have HO : Hid (old.size = 8) := by show _ = _; rw [← hold]; rfl
  clear hbS hbR hup1 hbW hgr2 hsz2 hzR hold
  have c0 : w2.cell? ⟨w.heap.size, 0, none⟩ = some (.int .u32 (s.a : Int)) := hcw.blkS.cell (i := 0) rfl
  have c1 : w2.cell? ⟨w.heap.size, 1, none⟩ = some (.int .u32 (s.b : Int)) := hcw.blkS.cell (i := 1) rfl
  have c2 : w2.cell? ⟨w.heap.size, 2, none⟩ = some (.int .u32 (s.c : Int)) := hcw.blkS.cell (i := 2) rfl
  have c3 : w2.cell? ⟨w.heap.size, 3, none⟩ = some (.int .u32 (s.d : Int)) := hcw.blkS.cell (i := 3) rfl
  have c4 : w2.cell? ⟨w.heap.size, 4, none⟩ = some (.int .u32 (s.e : Int)) := hcw.blkS.cell (i := 4) rfl
  have c5 : w2.cell? ⟨w.heap.size, 5, none⟩ = some (.int .u32 (s.f : Int)) := hcw.blkS.cell (i := 5) rfl
  have c6 : w2.cell? ⟨w.heap.size, 6, none⟩ = some (.int .u32 (s.g : Int)) := hcw.blkS.cell (i := 6) rfl
  have c7 : w2.cell? ⟨w.heap.size, 7, none⟩ = some (.int .u32 (s.h : Int)) := hcw.blkS.cell (i := 7) rfl
  go_quiet (fail)
  go_wp2
  go_quiet (fail)
  go_wp2
  go_loopw [35, 6, 7, 8, 9, 10, 11, 12, 13, 14, 15, 16] (fun c35 va vb vc vd ve vf vg vh _ _ _ wr => ∃ k a b c d e f g h : Nat, c35 = .int .i64 k ∧ k ≤ 64 ∧ va = .int .u32 (a : Nat) ∧ vb = .int .u32 (b : Nat) ∧ vc = .int .u32 (c : Nat) ∧ vd = .int .u32 (d : Nat) ∧ ve = .int .u32 (e : Nat) ∧ vf = .int .u32 (f : Nat) ∧ vg = .int .u32 (g : Nat) ∧ vh = .int .u32 (h : Nat) ∧ Hid (⟨a, b, c, d, e, f, g, h⟩ : St).ok ∧ Hid (rndE cubes (expandL bl) (64 - k) k ⟨a, b, c, d, e, f, g, h⟩ = rndE cubes (expandL bl) 64 0 s) ∧ CW w wr w1.heap.size s (expandL bl) old) (fun c35 _ _ _ _ _ _ _ _ _ _ _ _ => 64 - (intOf c35).toNat)
  case atStart => exact ⟨0, s.a, s.b, s.c, s.d, s.e, s.f, s.g, s.h, rfl, by omega, rfl, rfl, rfl, rfl, rfl, rfl, rfl, rfl, HS.out, rfl, (hcw.drewN _).drewN _⟩
  case round =>
    clear hcw
    obtain ⟨k, a, b, c, d, e, f, g, h, rfl, hk, rfl, rfl, rfl, rfl, rfl, rfl, rfl, rfl, HK, HR, hcw⟩ := hrel
    by_cases hlt : k < 64
    · have ha : a < 4294967296 := HK.out.1
      have he : e < 4294967296 := HK.out.2.2.2.2.1
      obtain ⟨x1, Hx1⟩ : ∃ x, Hid (x = rr e 6 ^^^ rr e 11 ^^^ rr e 25) := ⟨_, rfl⟩
      obtain ⟨x2, Hx2⟩ : ∃ x, Hid (x = e &&& f ^^^ (4294967295 ^^^ e) &&& g) := ⟨_, rfl⟩
      obtain ⟨y1, Hy1⟩ : ∃ x, Hid (x = rr a 2 ^^^ rr a 13 ^^^ rr a 22) := ⟨_, rfl⟩
      obtain ⟨y2, Hy2⟩ : ∃ x, Hid (x = a &&& b ^^^ a &&& c ^^^ b &&& c) := ⟨_, rfl⟩
      obtain ⟨kk, Hkk⟩ : ∃ x, Hid (x = cubes.getD k 0) := ⟨_, rfl⟩
      obtain ⟨wk, Hwk⟩ : ∃ x, Hid (x = (expandL bl).getD k 0) := ⟨_, rfl⟩
      have ck : wr.cell? ⟨2, k, none⟩ = some (.int .u32 (kk : Int)) := by rw [Hkk.out]; exact hcw.tabs.cube k hlt
      have cw : wr.cell? ⟨w1.heap.size, k, none⟩ = some (.int .u32 (wk : Int)) := by rw [Hwk.out]; exact hcw.blkW.cell (u32s_get (by rw [HE.out]; exact hlt))
      have f1 : bits .xor .u32 (bits .xor .u32 ((rr e 6 : Nat) : Int) ((rr e 11 : Nat) : Int)) ((rr e 25 : Nat) : Int) = (x1 : Int) := by
        rw [Hx1.out, xor_n (rr_lt he) (rr_lt he), xor_n (Nat.xor_lt_two_pow (n := 32) (rr_lt he) (rr_lt he)) (rr_lt he)]
      have f2 : bits .xor .u32 (bits .and .u32 (e : Int) (f : Int)) (bits .and .u32 (bits .xor .u32 IntKind.u32.max (e : Int)) (g : Int)) = (x2 : Int) := by
        rw [Hx2.out]; exact ch_i he HK.out.2.2.2.2.2.1 HK.out.2.2.2.2.2.2.1
      have f3 : bits .xor .u32 (bits .xor .u32 ((rr a 2 : Nat) : Int) ((rr a 13 : Nat) : Int)) ((rr a 22 : Nat) : Int) = (y1 : Int) := by
        rw [Hy1.out, xor_n (rr_lt ha) (rr_lt ha), xor_n (Nat.xor_lt_two_pow (n := 32) (rr_lt ha) (rr_lt ha)) (rr_lt ha)]
      have f4 : bits .xor .u32 (bits .xor .u32 (bits .and .u32 (a : Int) (b : Int)) (bits .and .u32 (a : Int) (c : Int))) (bits .and .u32 (b : Int) (c : Int)) = (y2 : Int) := by
        rw [Hy2.out]; exact maj_i HK.out.2.1 HK.out.2.2.1
      obtain ⟨t1, Ht1⟩ : ∃ x, Hid (x = tOne ⟨a, b, c, d, e, f, g, h⟩ kk wk) := ⟨_, rfl⟩
      obtain ⟨t2, Ht2⟩ : ∃ x, Hid (x = tTwo ⟨a, b, c, d, e, f, g, h⟩) := ⟨_, rfl⟩
      obtain ⟨z1, Hz1⟩ : ∃ x, Hid (x = (t1 + t2) % 4294967296) := ⟨_, rfl⟩
      obtain ⟨z2, Hz2⟩ : ∃ x, Hid (x = (d + t1) % 4294967296) := ⟨_, rfl⟩
      have et1 : ((h : Int) + x1 + x2 + kk + wk) % 4294967296 = (t1 : Int) := by
        rw [Ht1.out]; unfold tOne; simp only; rw [← Hx1.out, ← Hx2.out]; omega
      have et2 : ((y1 : Int) + y2) % 4294967296 = (t2 : Int) := by
        rw [Ht2.out]; unfold tTwo; simp only; rw [← Hy1.out, ← Hy2.out]; omega
      have ez1 : ((t1 : Int) + t2) % 4294967296 = (z1 : Int) := by rw [Hz1.out]; omega
      have ez2 : ((d : Int) + t1) % 4294967296 = (z2 : Int) := by rw [Hz2.out]; omega
      have HQ : Hid (rndE cubes (expandL bl) (64 - (k + 1)) (k + 1) ⟨z1, a, b, c, z2, e, f, g⟩ = rndE cubes (expandL bl) 64 0 s) := by
        show _ = _
        rw [← HR.out, rnd_step _ _ hlt]
        unfold rndF
        rw [rndOne_eq, ← Hkk.out, ← Hwk.out, ← Ht1.out, ← Ht2.out, ← Hz1.out, ← Hz2.out]
      have HK2 : Hid (⟨z1, a, b, c, z2, e, f, g⟩ : St).ok := ⟨by show z1 < _; rw [Hz1.out]; exact Nat.mod_lt _ (by decide), HK.out.1, HK.out.2.1, HK.out.2.2.1, by show z2 < _; rw [Hz2.out]; exact Nat.mod_lt _ (by decide), HK.out.2.2.2.2.1, HK.out.2.2.2.2.2.1, HK.out.2.2.2.2.2.2.1⟩
      go_wp2
      go_quiet ((first | (with_reducible exact Calls.quiet_of_same (rot_6s e _ he)) | (with_reducible exact Calls.quiet_of_same (rot_11s e _ he)) | (with_reducible exact Calls.quiet_of_same (rot_25s e _ he))))
      go_wp2_with fail
      refine (rot_2 a _ ha).mono ?_
      rintro e' w' ⟨rfl, rfl⟩
      go_wp2_with fail
      refine (rot_13 a _ ha).mono ?_
      rintro e' w' ⟨rfl, rfl⟩
      go_wp2_with fail
      refine (rot_22 a _ ha).mono ?_
      rintro e' w' ⟨rfl, rfl⟩
      go_wp2
      go_roundw
      case rel => exact ⟨k + 1, z1, a, b, c, z2, e, f, g, by go_num, by omega, by first | rfl | rw [ez1], rfl, rfl, rfl, by first | rfl | rw [ez2], rfl, rfl, rfl, HK2, HQ, hcw.drewN _⟩
      case measure => simp [intOf]; omega
    · have hge : decide ((k : Int) < 64) = false := decide_eq_false (by omega)
      have c0 : wr.cell? ⟨w.heap.size, 0, none⟩ = some (.int .u32 (s.a : Int)) := hcw.blkS.cell (i := 0) rfl
      have c1 : wr.cell? ⟨w.heap.size, 1, none⟩ = some (.int .u32 (s.b : Int)) := hcw.blkS.cell (i := 1) rfl
      have c2 : wr.cell? ⟨w.heap.size, 2, none⟩ = some (.int .u32 (s.c : Int)) := hcw.blkS.cell (i := 2) rfl
      have c3 : wr.cell? ⟨w.heap.size, 3, none⟩ = some (.int .u32 (s.d : Int)) := hcw.blkS.cell (i := 3) rfl
      have c4 : wr.cell? ⟨w.heap.size, 4, none⟩ = some (.int .u32 (s.e : Int)) := hcw.blkS.cell (i := 4) rfl
      have c5 : wr.cell? ⟨w.heap.size, 5, none⟩ = some (.int .u32 (s.f : Int)) := hcw.blkS.cell (i := 5) rfl
      have c6 : wr.cell? ⟨w.heap.size, 6, none⟩ = some (.int .u32 (s.g : Int)) := hcw.blkS.cell (i := 6) rfl
      have c7 : wr.cell? ⟨w.heap.size, 7, none⟩ = some (.int .u32 (s.h : Int)) := hcw.blkS.cell (i := 7) rfl
      obtain ⟨q, Hq⟩ : ∃ q, Hid (q = addSt s ⟨a, b, c, d, e, f, g, h⟩) := ⟨_, rfl⟩
      have es0 : ((s.a : Int) + a) % 4294967296 = (q.a : Int) := by rw [Hq.out]; exact (add_i _ _)
      have es1 : ((s.b : Int) + b) % 4294967296 = (q.b : Int) := by rw [Hq.out]; exact (add_i _ _)
      have es2 : ((s.c : Int) + c) % 4294967296 = (q.c : Int) := by rw [Hq.out]; exact (add_i _ _)
      have es3 : ((s.d : Int) + d) % 4294967296 = (q.d : Int) := by rw [Hq.out]; exact (add_i _ _)
      have es4 : ((s.e : Int) + e) % 4294967296 = (q.e : Int) := by rw [Hq.out]; exact (add_i _ _)
      have es5 : ((s.f : Int) + f) % 4294967296 = (q.f : Int) := by rw [Hq.out]; exact (add_i _ _)
      have es6 : ((s.g : Int) + g) % 4294967296 = (q.g : Int) := by rw [Hq.out]; exact (add_i _ _)
      have es7 : ((s.h : Int) + h) % 4294967296 = (q.h : Int) := by rw [Hq.out]; exact (add_i _ _)
      have HF : Hid (q = compressL s bl) := by
        show _ = _
        rw [compressL_eq, Hq.out, ← HR.out, show 64 - k = 0 by omega]
        rfl
      have hR := hcw.blkR
      go_wp2_with (refine st_row rfl 40 _ _ rfl (w.heap.size + 1 + 1) (u32s q.list) rfl rfl 40 old hR (by rw [Tryd.info40]; rfl) (by rw [HO.out]; rfl) (u32s_one _) ?_; intro w3 hb3 hg3 hz3)
      refine bodyPost_ret (v := .agg (u32s q.list)) (results_cell_row rfl _ _ (w.heap.size + 1 + 1) 40 (u32s q.list) (0, 0) _ rfl hb3 Tryd.underlying40 rfl (by rw [Tryd.info40]; rfl)) rfl ⟨by rw [HF.out], hcw.up.grownS hg3 (by omega)⟩
end Go.Proofs.YtdnhecgjfanakaaDoor
