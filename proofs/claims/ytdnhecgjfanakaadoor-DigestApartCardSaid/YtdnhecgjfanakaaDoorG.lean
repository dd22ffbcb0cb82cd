/- A hash in memory: its state, its block and its length. -/
import Derived.Test.YtdnhecgjfanakaaDoorF
import Derived.Lib.BufferWrite
import Derived.Deep.RegionHeld3
import Derived.StillTailTactics
import Derived.Deep.MidRow
namespace Go.Proofs.YtdnhecgjfanakaaDoor
open Go.RowKit

def u32l (l : List Nat) : List Value := l.map fun (x : Nat) => Value.int .u32 (x : Int)
theorem u32l_len (l : List Nat) : (u32l l).length = l.length := by simp [u32l]
/-- The cells of a hash. -/
def hcs (s : St) (buf : List Nat) (n : Nat) : List Value := u32l s.list ++ (u8s buf ++ [.int .u64 (n : Int)])
theorem hcs_len (s : St) {buf : List Nat} (h : buf.length = 64) (n : Nat) : (hcs s buf n).length = 73 := by unfold hcs; simp [u32l_len, u8s_len, h, St.list]
theorem st_len (s : St) : (u32l s.list).length = 8 := by simp [u32l_len, St.list]
theorem hcs_n (s : St) {buf : List Nat} (h : buf.length = 64) (n : Nat) : (hcs s buf n).toArray[72]? = some (.int .u64 (n : Int)) := by
  unfold hcs
  rw [List.getElem?_toArray, List.getElem?_append_right (by rw [st_len]; decide), st_len, List.getElem?_append_right (by rw [u8s_len, h]; decide), u8s_len, h]
  rfl
theorem hcs_setN (s : St) {buf : List Nat} (h : buf.length = 64) (n m : Nat) : (hcs s buf n).toArray.setIfInBounds 72 (.int .u64 (m : Int)) = (hcs s buf m).toArray := by
  unfold hcs
  rw [List.setIfInBounds_toArray, List.set_append_right _ _ (by rw [st_len]; decide), st_len, List.set_append_right _ _ (by rw [u8s_len, h]; decide), u8s_len, h]
  rfl
theorem hcs_st (s : St) (buf : List Nat) (n : Nat) {i : Nat} (hi : i < 8) : (hcs s buf n).toArray[i]? = some (.int .u32 ((s.list.getD i 0 : Nat) : Int)) := by
  unfold hcs
  rw [List.getElem?_toArray, List.getElem?_append_left (by rw [st_len]; exact hi)]
  have : i < s.list.length := by simp [St.list]; exact hi
  simp [u32l, List.getD, this]
theorem hcs_buf (s : St) {buf : List Nat} (h : buf.length = 64) (n : Nat) {i : Nat} (hi : i < 64) : (hcs s buf n).toArray[8 + i]? = (u8s buf)[i]? := by
  unfold hcs
  rw [List.getElem?_toArray, List.getElem?_append_right (by rw [st_len]; omega), st_len, List.getElem?_append_left (by rw [u8s_len, h]; omega)]
  congr 1
  omega
/-- Bytes copied into the block. -/
theorem hcs_copy (s : St) {buf : List Nat} (h : buf.length = 64) (n r : Nat) (c : List Nat) (hr : r + c.length ≤ 64) :
    ((hcs s buf n).toArray.toList.take (8 + r) ++ u8s c ++ (hcs s buf n).toArray.toList.drop (8 + r + c.length)).toArray = (hcs s (buf.take r ++ c ++ buf.drop (r + c.length)) n).toArray := by
  unfold hcs
  congr 1
  rw [List.toList_toArray, List.take_append, st_len, List.drop_append, st_len, List.take_of_length_le (by rw [st_len]; omega), List.drop_of_length_le (l := u32l s.list) (by rw [st_len]; omega)]
  rw [show 8 + r - 8 = r by omega, show 8 + r + c.length - 8 = r + c.length by omega]
  rw [List.take_append_of_le_length (by rw [u8s_len]; omega), List.drop_append_of_le_length (by rw [u8s_len]; omega)]
  simp [u8s, List.map_take, List.map_drop]
def HashAt (w : World) (g : Nat) (l : List Nat) : Prop := ∃ buf : List Nat, buf.length = 64 ∧ (∀ x ∈ buf, x < 256) ∧ buf.take (l.length % 64) = l.drop (64 * (l.length / 64)) ∧ Bk w g 43 (hcs (stOf l) buf l.length).toArray
theorem HashAt.up {w w' : World} {g : Nat} {l : List Nat} (h : HashAt w g l) (hu : Up w w') : HashAt w' g l := by
  obtain ⟨buf, h1, h2, h3, h4⟩ := h
  exact ⟨buf, h1, h2, h3, h4.up hu⟩
theorem HashAt.grownO {w w' : World} {g g' : Nat} {l : List Nat} (h : HashAt w g l) (hg : w.grownBy w' (some g')) (hne : g ≠ g') : HashAt w' g l := by
  obtain ⟨buf, h1, h2, h3, h4⟩ := h
  exact ⟨buf, h1, h2, h3, h4.grownO hg hne⟩
theorem HashAt.lt {w : World} {g : Nat} {l : List Nat} (h : HashAt w g l) : g < w.heap.size := by
  obtain ⟨buf, h1, h2, h3, h4⟩ := h
  exact h4.lt
theorem sizeU8' : (Tryd.prog.info? 5).map (·.size) = some 1 := by kernel_rfl
theorem slice_block (g r : Nat) (hr : r < 64) (w : World) : (Instr.sliceAt 41 (.pointer (some ⟨g, 8, none⟩)) (some (.int .u64 (r : Int))) none none).run Tryd.prog w = .ok (.slice (some ⟨g, 8 + r, none⟩) (64 - r) (64 - r)) w := by
  have hl : Tryd.prog.arrayLen 41 = 64 := by kernel_rfl
  have he : Tryd.prog.elem 41 = 5 := by kernel_rfl
  have ht : Tryd.prog.underlying 41 = some (.array (Tryd.prog.arrayLen 41) (Tryd.prog.elem 41)) := by rw [hl, he]; exact Tryd.underlying41
  have hs : (sizeOf 5).run Tryd.prog w = .ok 1 w := by
    have h := sizeU8'
    cases hq : Tryd.prog.info? 5 with
    | none => simp [hq] at h
    | some j =>
      have hj : j.size = 1 := by simpa [hq] using h
      simp [sizeOf, typeInfo, hq, hj]
  rw [run_sliceAt_array_l w 41 ⟨g, 8, none⟩ ht .u64 (r : Int) (by omega) (by rw [hl]; omega), hl, he, hs]
  have hne : ¬ 64 = r := by omega
  have hadd : (⟨g, 8, none⟩ : Addr).add r = ⟨g, 8 + r, none⟩ := by unfold Addr.add; split <;> simp_all
  simp [Result.andThen, slicedAt, hne, hadd]
theorem grown_set (w : World) (g j : Nat) (u : Value) : w.grownBy (w.setCell ⟨g, j, none⟩ u) (some g) :=
  ⟨rfl, rfl, rfl, by simp, fun k _ hk => Below.heap_setCell _ _ _ k (fun e => hk (by rw [e]))⟩
theorem grown_trans {a b c : World} {r : Option Nat} (h : a.grownBy b r) (k : b.grownBy c r) : a.grownBy c r :=
  ⟨k.os.trans h.os, k.tape.trans h.tape, k.output.trans h.output, Nat.le_trans h.size k.size, fun j hj hne => (k.block j (Nat.lt_of_lt_of_le hj h.size) hne).trans (h.block j hj hne)⟩
theorem grown_drew (w : World) (r : Option Nat) : w.grownBy w.drew r := ⟨rfl, rfl, rfl, Nat.le_refl _, fun _ _ _ => rfl⟩
theorem grown_up {w w' : World} (h : Up w w') (r : Option Nat) : w.grownBy w' r := ⟨h.os, h.tape, h.output, h.size, fun k hk _ => h.block k hk⟩
/-- Number i of a region is taken first: its slot by name, the state written out. -/
theorem take_any {P : Program} {ops : Array Oper} {Q : Exit → Act → World → Prop} {md : Region.Mode} {i d : Nat} {oi : Oper} {v : Value} {fuel : Nat} {listed : Array Bool} {tmps : Array Value} {ds : List Deferred} {w : World} (hi : ops[i]? = some oi) (hd : oi.dst = some d)
    (hs : Region.noSelect ops = true) (hf : Region.free md ops listed i = true) (hr : (Region.ready md ops listed).contains i = true)
    (hQ : ∀ c a w, Q (.panic c) (a.put oi.dst v) w → Q (.panic c) a w) (hy : Yields P ops oi v { tmps := tmps, defers := ds })
    (h : wpAny P md ops Q fuel (listed.setIfInBounds i true) { tmps := tmps.setIfInBounds d v, defers := ds } w) : wpAny P md ops Q (fuel + 1) listed { tmps := tmps, defers := ds } w :=
  wpAny_take hi hs hf hr hQ hy (by rw [hd]; exact h)
/-- A load of many cells, its slot by name. -/
theorem load_at {P : Program} {op : Oper} {d : Nat} {tmps : Array Value} {ds : List Deferred} {w : World} {K : Act → World → Prop} {Q : Exit → Act → World → Prop} (hdst : op.dst = some d) (ty : TypeId) (x : Operand) (ho : op.op = .load ty x)
    (b o : Nat) (hx : ({ tmps := tmps, defers := ds } : Act).eval x = .pointer (some ⟨b, o, none⟩)) (cs : List Value) (td : TypeDesc) (hc : w.rangeAt b o cs)
    (hu : P.underlying ty = some td) (hd : td.isRow = true) (hi : (P.info? ty).map (·.size) = some cs.length)
    (h : K { tmps := tmps.setIfInBounds d (.agg cs.toArray), defers := ds } w) : op.wp P { tmps := tmps, defers := ds } w K Q :=
  wp_load_mid ty x ho b o hx cs td hc hu hd hi (by rw [hdst]; exact h)
theorem there_block (s : St) {buf : List Nat} (n : Nat) {w : World} {g : Nat} {t : TypeId} (hb : Bk w g t (hcs s buf n).toArray) : w.there g 0 8 := fun j hj =>
  ⟨by rw [Nat.zero_add, hb.cell (hcs_st s buf n hj)]; rfl, hb.frozen _⟩
theorem range_state (s : St) (buf : List Nat) (n : Nat) {w : World} {g : Nat} {t : TypeId} (hb : Bk w g t (hcs s buf n).toArray) : w.rangeAt g 0 (u32l s.list) := fun j v hv => hb.cell (by
  have hj := (List.getElem?_eq_some_iff.1 hv).1
  rw [st_len] at hj
  rw [Nat.zero_add, hcs_st s buf n hj, ← hv]
  have : j < s.list.length := by simp [St.list]; exact hj
  simp [u32l, List.getD, this])
theorem range_block (s : St) {buf : List Nat} (h : buf.length = 64) (n : Nat) {w : World} {g : Nat} {t : TypeId} (hb : Bk w g t (hcs s buf n).toArray) : w.rangeAt g 8 (u8s buf) := fun j v hv => hb.cell (by
  have hj := (List.getElem?_eq_some_iff.1 hv).1
  rw [u8s_len, h] at hj
  rw [hcs_buf s h n hj, hv])
theorem range_far {w : World} {g : Nat} {l : List Value} (h : w.rangeAt g 8 l) {i : Nat} (hi : i < 8) (u : Value) : (w.setCell ⟨g, i, none⟩ u).rangeAt g 8 l := fun j v hv =>
  (World.cell?_setCell_other w _ _ u (fun e => by have := congrArg Addr.off e; simp at this; omega)).trans (h j v hv)
theorem u32s_lit (s : St) : u32s s.list = #[.int .u32 (s.a : Nat), .int .u32 (s.b : Nat), .int .u32 (s.c : Nat), .int .u32 (s.d : Nat), .int .u32 (s.e : Nat), .int .u32 (s.f : Nat), .int .u32 (s.g : Nat), .int .u32 (s.h : Nat)] := rfl
/-- What compress returns, its parts by name. -/
def RetComp (w : World) (s : St) (bl : List Nat) (e : Ending) (w' : World) : Prop := ∃ q : St, Hid (q = compressL s bl) ∧ e = .returned (.agg #[.int .u32 (q.a : Nat), .int .u32 (q.b : Nat), .int .u32 (q.c : Nat), .int .u32 (q.d : Nat), .int .u32 (q.e : Nat), .int .u32 (q.f : Nat), .int .u32 (q.g : Nat), .int .u32 (q.h : Nat)]) ∧ Up w w'
theorem compress_lit (s : St) (bl : List Nat) (w : World) (hs : s.ok) (hl : bl.length = 64) (hb : ∀ x ∈ bl, x < 256) (hT : Tabs w) : Calls Tryd.prog 16 #[.agg #[.int .u32 (s.a : Nat), .int .u32 (s.b : Nat), .int .u32 (s.c : Nat), .int .u32 (s.d : Nat), .int .u32 (s.e : Nat), .int .u32 (s.f : Nat), .int .u32 (s.g : Nat), .int .u32 (s.h : Nat)], .agg (u8a bl)] w (RetComp w s bl) := by
  have h := compress_any s bl w hs hl hb hT
  rw [u32s_lit s] at h
  exact h.mono fun e w' ⟨he, hu⟩ => ⟨compressL s bl, rfl, by rw [← u32s_lit]; exact he, hu⟩
theorem hcs_q (s q : St) (buf : List Nat) (n : Nat) : (((((((((hcs s buf n).toArray.setIfInBounds 0 (.int .u32 (q.a : Nat))).setIfInBounds 1 (.int .u32 (q.b : Nat))).setIfInBounds 2 (.int .u32 (q.c : Nat))).setIfInBounds 3 (.int .u32 (q.d : Nat))).setIfInBounds 4 (.int .u32 (q.e : Nat))).setIfInBounds 5 (.int .u32 (q.f : Nat))).setIfInBounds 6 (.int .u32 (q.g : Nat))).setIfInBounds 7 (.int .u32 (q.h : Nat))) = (hcs q buf n).toArray := by simp [hcs, u32l, St.list]
theorem hash_store {w : World} {g : Nat} {s : St} {buf : List Nat} {n : Nat} {t : TypeId} (h : Bk w g t (hcs s buf n).toArray) (q : St) : Bk ((((((((w.setCell ⟨g, 0, none⟩ (.int .u32 (q.a : Nat))).setCell ⟨g, 1, none⟩ (.int .u32 (q.b : Nat))).setCell ⟨g, 2, none⟩ (.int .u32 (q.c : Nat))).setCell ⟨g, 3, none⟩ (.int .u32 (q.d : Nat))).setCell ⟨g, 4, none⟩ (.int .u32 (q.e : Nat))).setCell ⟨g, 5, none⟩ (.int .u32 (q.f : Nat))).setCell ⟨g, 6, none⟩ (.int .u32 (q.g : Nat))).setCell ⟨g, 7, none⟩ (.int .u32 (q.h : Nat))) g t (hcs q buf n).toArray ∧ w.grownBy ((((((((w.setCell ⟨g, 0, none⟩ (.int .u32 (q.a : Nat))).setCell ⟨g, 1, none⟩ (.int .u32 (q.b : Nat))).setCell ⟨g, 2, none⟩ (.int .u32 (q.c : Nat))).setCell ⟨g, 3, none⟩ (.int .u32 (q.d : Nat))).setCell ⟨g, 4, none⟩ (.int .u32 (q.e : Nat))).setCell ⟨g, 5, none⟩ (.int .u32 (q.f : Nat))).setCell ⟨g, 6, none⟩ (.int .u32 (q.g : Nat))).setCell ⟨g, 7, none⟩ (.int .u32 (q.h : Nat))) (some g) :=
  ⟨by
    have h2 := ((((((((h.setCell 0 (.int .u32 (q.a : Nat))).setCell 1 (.int .u32 (q.b : Nat))).setCell 2 (.int .u32 (q.c : Nat))).setCell 3 (.int .u32 (q.d : Nat))).setCell 4 (.int .u32 (q.e : Nat))).setCell 5 (.int .u32 (q.f : Nat))).setCell 6 (.int .u32 (q.g : Nat))).setCell 7 (.int .u32 (q.h : Nat)))
    rw [hcs_q] at h2
    exact h2, grown_trans (grown_trans (grown_trans (grown_trans (grown_trans (grown_trans (grown_trans (grown_set w g 0 _) (grown_set _ g 1 _)) (grown_set _ g 2 _)) (grown_set _ g 3 _)) (grown_set _ g 4 _)) (grown_set _ g 5 _)) (grown_set _ g 6 _)) (grown_set _ g 7 _)⟩
/-- copy of a string's first bytes. -/
theorem run_copy_str (w : World) (ty : TypeId) (g o dLen dCap : Nat) (s : ByteArray) (cur : List Value) (t : TypeId) (m : Nat)
    (hg : w.heap[g]? = some (.cells cur.toArray t (0, 0))) (hm : m = min s.size dLen) (hfit : o + m ≤ cur.length) :
    (Builtin.copy_ #[35, 9] ty #[.slice (some ⟨g, o, none⟩) dLen dCap, .string s]).run Tryd.prog w =
      .ok (goInt m) (w.setRow g (cur.toArray.toList.take o ++ u8s ((by_ s).take m) ++ cur.toArray.toList.drop (o + m)).toArray) := by
  have hlen : (u8s ((by_ s).take m)).length = m := by rw [u8s_len, List.length_take, by_len]; omega
  have hst := run_storeCells_at Tryd.prog g o t (u8s ((by_ s).take m)) 0 cur.toArray w hg (by rw [hlen]; simpa using hfit) (u8s_one _)
  have hmin : Nat.min s.size dLen = m := hm.symm
  have htk : List.take m (List.map (fun b : UInt8 => Value.int IntKind.u8 (b.toNat : Int)) s.data.toList) = u8s ((by_ s).take m) := by
    unfold u8s by_
    rw [← List.map_take, ← List.map_take, List.map_map]
    rfl
  rw [hlen] at hst
  simp only [Nat.add_zero] at hst
  have hs := sizeU8'
  cases hq : Tryd.prog.info? 5 with
  | none => simp [hq] at hs
  | some i =>
    simp [Builtin.copy_, run_underlying Tryd.underlying35, Builtin.lenOf, Builtin.firstCells, sizeOf, typeInfo, hq, hmin]
    rw [htk, hst]
    simp [Result.andThen]
/-- copy, as one step of a region that draws its order. -/
theorem step_copy_str {ops : Array Oper} {o : Oper} {a : Act} {w : World} {K : Act → World → Prop} {Q : Exit → Act → World → Prop} {E : Prop} (hgd : o.guard = none) (d s : Operand)
    (ho : o.op = .call { callee := .builtin .copy, args := #[d, s], argTypes := #[35, 9] })
    (g of dLen dCap : Nat) (hd : a.eval d = .slice (some ⟨g, of, none⟩) dLen dCap) (str : ByteArray) (hs : a.eval s = .string str) (cur : List Value) (t : TypeId) (hg : Bk w g t cur.toArray) (m : Nat) (hm : m = min str.size dLen) (hfit : of + m ≤ cur.length)
    (h : ∀ w', Bk w' g t (cur.toArray.toList.take of ++ u8s ((by_ str).take m) ++ cur.toArray.toList.drop (of + m)).toArray → w.grownBy w' (some g) → w'.heap.size = w.heap.size → K (a.put o.dst (goInt m)) w') :
    if Region.wanted o (yielded ops a.tmps) = true then Oper.wp Tryd.prog o a w K Q else E := by
  have hw : Region.wanted o (yielded ops a.tmps) = true := by simp [Region.wanted, hgd]
  rw [if_pos hw]
  have hrun := run_copy_str w o.type g of dLen dCap str cur t m hg hm hfit
  have h2 := h _ (setRow_heap _ _ _ _ _ _ hg) ⟨rfl, rfl, rfl, by rw [setRow_size]; exact Nat.le_refl _, fun k hk hne => setRow_other _ _ _ _ (fun e => hne (by rw [e]))⟩ (setRow_size _ _ _)
  generalize w.setRow g _ = w' at hrun h2
  unfold Oper.wp
  simp [execOp, ho, resolve, invoke, builtin, hd, hs, hrun, Result.andThen]
  exact h2
/-- copy, at the list of a plain region. -/
theorem wpList_copy_str {ops : Array Oper} {rest : List Oper} {o : Oper} {a : Act} {w : World} {Q : Exit → Act → World → Prop} (hgd : o.guard = none) (d s : Operand)
    (ho : o.op = .call { callee := .builtin .copy, args := #[d, s], argTypes := #[35, 9] })
    (g of dLen dCap : Nat) (hd : a.eval d = .slice (some ⟨g, of, none⟩) dLen dCap) (str : ByteArray) (hs : a.eval s = .string str) (cur : List Value) (t : TypeId) (hg : Bk w g t cur.toArray) (m : Nat) (hm : m = min str.size dLen) (hfit : of + m ≤ cur.length)
    (h : ∀ w', Bk w' g t (cur.toArray.toList.take of ++ u8s ((by_ str).take m) ++ cur.toArray.toList.drop (of + m)).toArray → w.grownBy w' (some g) → w'.heap.size = w.heap.size → wpList Tryd.prog ops Q rest (a.put o.dst (goInt m)) w') : wpList Tryd.prog ops Q (o :: rest) a w := by
  refine wpList_plain hgd fun K hK => ?_
  have hrun := run_copy_str w o.type g of dLen dCap str cur t m hg hm hfit
  have h2 := h _ (setRow_heap _ _ _ _ _ _ hg) ⟨rfl, rfl, rfl, by rw [setRow_size]; exact Nat.le_refl _, fun k hk hne => setRow_other _ _ _ _ (fun e => hne (by rw [e]))⟩ (setRow_size _ _ _)
  unfold Oper.wp execOp
  simp only [ho, resolve, invoke, builtin, Sem.run_bind, Sem.run_pure, Result.andThen_ok, List.map_toArray, List.map_cons, List.map_nil, hd, hs, hrun]
  exact hK _ _ h2

theorem hash_same {w' : World} {g n r m : Nat} {d c buf : List Nat} (h64 : buf.length = 64) (hbl : ∀ x ∈ buf, x < 256) (hcl : ∀ x ∈ c, x < 256) (hn : n = d.length) (hr : r = n % 64) (hm : m = c.length) (hbt : buf.take (d.length % 64) = d.drop (64 * (d.length / 64))) (hlt : r + m < 64)
    (hb : Bk w' g 43 (hcs (stOf d) (buf.take r ++ c ++ buf.drop (r + c.length)) (n + m)).toArray) : HashAt w' g (d ++ c) := by
  subst hn hr hm
  refine ⟨buf.take (d.length % 64) ++ c ++ buf.drop (d.length % 64 + c.length), ?_, ?_, ?_, ?_⟩
  · simp; omega
  · intro x hx
    rcases List.mem_append.1 hx with hx | hx
    · rcases List.mem_append.1 hx with hx | hx
      · exact hbl x (List.mem_of_mem_take hx)
      · exact hcl x hx
    · exact hbl x (List.mem_of_mem_drop hx)
  · rw [List.length_append, show (d.length + c.length) % 64 = d.length % 64 + c.length by omega, show (d.length + c.length) / 64 = d.length / 64 by omega, List.drop_append_of_le_length (by omega), ← hbt]
    rw [List.take_append_of_le_length (by simp; omega)]
    exact List.take_of_length_le (by simp; omega)
  · rw [stOf_same (by omega), List.length_append]
    exact hb
theorem hash_next {w' : World} {g n r m : Nat} {d c buf : List Nat} (h64 : buf.length = 64) (hbl : ∀ x ∈ buf, x < 256) (hcl : ∀ x ∈ c, x < 256) (hn : n = d.length) (hr : r = n % 64) (hm : m = c.length) (hbt : buf.take (d.length % 64) = d.drop (64 * (d.length / 64))) (hlt : r + m = 64)
    (hb : Bk w' g 43 (hcs (compressL (stOf d) (buf.take r ++ c ++ buf.drop (r + c.length))) (buf.take r ++ c ++ buf.drop (r + c.length)) (n + m)).toArray) : HashAt w' g (d ++ c) := by
  subst hn hr hm
  have hd : buf.drop (d.length % 64 + c.length) = [] := List.drop_of_length_le (by omega)
  rw [hd, List.append_nil] at hb
  refine ⟨buf.take (d.length % 64) ++ c, ?_, ?_, ?_, ?_⟩
  · simp; omega
  · intro x hx
    rcases List.mem_append.1 hx with hx | hx
    · exact hbl x (List.mem_of_mem_take hx)
    · exact hcl x hx
  · rw [List.length_append, show (d.length + c.length) % 64 = 0 by omega, List.take_zero, List.drop_of_length_le (by simp; omega)]
  · rw [stOf_next (b := buf.take (d.length % 64) ++ c) (by omega) (by rw [hbt]), List.length_append]
    exact hb
end Go.Proofs.YtdnhecgjfanakaaDoor
