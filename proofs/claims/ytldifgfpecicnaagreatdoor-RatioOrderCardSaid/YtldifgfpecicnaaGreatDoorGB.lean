import Derived.Test.YtldifgfpecicnaaGreatDoorRows
import Derived.Test.YtldifgfpecicnaaGreatDoorGA
import Derived.WalkKit
import Derived.WalkSpells
import Derived.WalkLawsBesides
import Derived.Lib.Hide
import Derived.Deep.Draws
import Derived.Deep.AppendLies
import Derived.Deep.QuietTactic
import Derived.BigQuiet
import Derived.Deep.RegionHeld3
/- Plain words on memory: a slice of uint32 that reads as a list of numbers, an integer that reads as a sign and limbs, and how they are kept when the world grows. -/
namespace Go.Proofs.YtldifgfpecicnaaGreatDoor
open Go.RowKit

theorem Tryz.info91 : (Tryz.prog.info? 91).map (fun i => (i.zero, i.size, i.bytes)) = some (some (.int .u32 0), 1, 4) := by kernel_rfl

/-- The world has grown: nothing that was there has changed. -/
def Up (w w' : World) : Prop := Below w.heap.size w w'
theorem Up.refl (w : World) : Up w w := Below.refl _ _
theorem Up.size {w w' : World} (h : Up w w') : w.heap.size ≤ w'.heap.size := Below.size h
theorem Up.trans {a b c : World} (h : Up a b) (k : Up b c) : Up a c := Below.trans h (Below.mono k h.size)
theorem Up.alloc {a w : World} (h : Up a w) (o : Obj) : Up a (w.alloc o) := Below.alloc h h.size o
theorem Up.drew {a w : World} (h : Up a w) : Up a w.drew := Below.drew h
theorem Up.drewN {a w : World} (h : Up a w) (n : Nat) : Up a (w.drewN n) := ⟨h.os, h.tape, h.output, h.size, h.block⟩
theorem Up.cell {w w' : World} (h : Up w w') {p : Addr} (hp : p.block < w.heap.size) : w'.cell? p = w.cell? p := Below.cell h hp
theorem Up.frozen {w w' : World} (h : Up w w') {p : Addr} (hp : p.block < w.heap.size) : w'.frozen? p = w.frozen? p := Below.frozen h hp
theorem Up.setCell {a w : World} (h : Up a w) {p : Addr} (hp : a.heap.size ≤ p.block) (u : Value) : Up a (w.setCell p u) := Below.setCell h hp u
theorem Up.grown {a w w' : World} {row : Option Nat} (h : Up a w) (hg : w.grownBy w' row) (hr : ∀ k, row = some k → a.heap.size ≤ k) : Up a w' := Below.grown h hg h.size hr

theorem addBlock (a : Addr) (n : Nat) : (a.add n).block = a.block := by unfold Addr.add; split <;> rfl
theorem addAdd (a : Addr) (i j : Nat) : (a.add i).add j = a.add (i + j) := by
  unfold Addr.add
  by_cases hi : i = 0 <;> by_cases hj : j = 0 <;> simp [hi, hj, Nat.add_assoc]

/-- The slice at A, of l's length, reads as the numbers l, in blocks that are there. -/
def Lim (w : World) (A : Option Addr) (l : List Nat) : Prop :=
  l = [] ∨ ∃ ad, A = some ad ∧ ad.block < w.heap.size ∧ ∀ (j x : Nat), l[j]? = some x → w.cell? (ad.add j) = some (.int .u32 (x : Int))

theorem Lim.nil (w : World) (A : Option Addr) : Lim w A [] := Or.inl rfl
theorem Lim.at_ {w : World} {A : Option Addr} {l : List Nat} (h : Lim w A l) {k : Nat} (hk : k < l.length) :
    ∃ ad, A = some ad ∧ ad.block < w.heap.size ∧ w.cell? (ad.add k) = some (.int .u32 ((l.getD k 0 : Nat) : Int)) := by
  rcases h with rfl | ⟨ad, hA, hb, hc⟩
  · simp at hk
  · exact ⟨ad, hA, hb, by rw [hc k (l.getD k 0) (by simp [List.getD, hk])]⟩
theorem Lim.up {w w' : World} {A : Option Addr} {l : List Nat} (h : Lim w A l) (hu : Up w w') : Lim w' A l := by
  rcases h with rfl | ⟨ad, hA, hb, hc⟩
  · exact Or.inl rfl
  · exact Or.inr ⟨ad, hA, Nat.lt_of_lt_of_le hb hu.size, fun j x hx => (hu.cell (by rw [addBlock]; exact hb)).trans (hc j x hx)⟩
theorem Lim.take {w : World} {A : Option Addr} {l : List Nat} (h : Lim w A l) (n : Nat) : Lim w A (l.take n) := by
  rcases h with rfl | ⟨ad, hA, hb, hc⟩
  · left; simp
  · exact Or.inr ⟨ad, hA, hb, fun j x hx => hc j x (by rw [List.getElem?_take] at hx; split at hx <;> first | exact hx | cases hx)⟩

/-- A callee that leaves the world alone, met in a quiet region behind draws. -/
theorem quiet_add_left' {P : Program} {f : FuncId} {args : Array Value} {w : World} {a n : Nat} {v : Value} (h : Calls P f args (w.drewN (a + n)) fun e w' => e = .returned v ∧ w.drewN (a + n) = w') :
    Calls P f args (w.drewN (a + n)) fun e w'' => e = .returned v ∧ ∃ m, w'' = w.drewN (a + m) := h.mono fun _ _ ⟨he, hm⟩ => ⟨he, n, hm.symm⟩
end Go.Proofs.YtldifgfpecicnaaGreatDoor
/- Plain words on memory, the second part: rows of uint32 that the call itself makes. -/
namespace Go.Proofs.YtldifgfpecicnaaGreatDoor
open Go.RowKit

theorem hide {p : Prop} (h : p) : Hid p := h
theorem cell_new (w : World) (v : Value) (t : TypeId) : (w.alloc (.cells #[v] t)).cell? ⟨w.heap.size, 0, none⟩ = some v := by unfold World.cell?; rw [heap_alloc_new]; rfl
/-- Numbers as cells of type uint32. -/
def u32s (l : List Nat) : List Value := l.map fun (x : Nat) => .int .u32 (x : Int)
theorem u32s_len (l : List Nat) : (u32s l).length = l.length := by simp [u32s]
theorem u32s_append (l m : List Nat) : u32s (l ++ m) = u32s l ++ u32s m := by simp [u32s]
theorem u32s_one (l : List Nat) : ∀ u ∈ u32s l, u.oneCell' = true := by
  intro u hu
  simp only [u32s, List.mem_map] at hu
  obtain ⟨x, _, rfl⟩ := hu
  rfl
theorem u32s_get {l : List Nat} {j x : Nat} (h : l[j]? = some x) : (u32s l)[j]? = some (.int .u32 (x : Int)) := by simp [u32s, h]

/-- The slice at A lies in block B or beyond. -/
def NewB (B : Nat) (A : Option Addr) : Prop := ∀ ad, A = some ad → B ≤ ad.block
theorem NewB.none_ (B : Nat) : NewB B none := fun _ h => by cases h
theorem NewB.mono {B B' : Nat} {A : Option Addr} (h : NewB B A) (hb : B' ≤ B) : NewB B' A := fun ad e => Nat.le_trans hb (h ad e)
/-- A store into another block. -/
theorem Lim.far {w : World} {A : Option Addr} {l : List Nat} {g j : Nat} (h : Lim w A l) (hn : NewB (g + 1) A) (u : Value) : Lim (w.setCell ⟨g, j, none⟩ u) A l := by
  rcases h with rfl | ⟨ad, rfl, hb, hc⟩
  · exact Or.inl rfl
  · have hg := hn ad rfl
    exact Or.inr ⟨ad, rfl, by simpa using hb, fun i x hx => (World.cell?_setCell_other w _ _ u (fun e => by
      have h1 := congrArg Addr.block e
      rw [addBlock] at h1
      simp at h1
      omega)).trans (hc i x hx)⟩
/-- An owned row of uint32 reads as its numbers. -/
theorem own_lim {w : World} {base : Nat} {v : Value} {n : Nat} {l : List Nat} (h : w.ownsRow base 91 1 v n (u32s l)) :
    ∃ A c, v = .slice A n c ∧ n ≤ c ∧ Lim w A l ∧ NewB base A := by
  obtain ⟨hl, hc⟩ := h
  rcases hc with ⟨rfl, rfl⟩ | ⟨g, cap, cur, rfl, hb, hg, hnc, hm, hs, ht⟩
  · rw [u32s_len] at hl
    exact ⟨none, 0, rfl, Nat.le_refl _, Or.inl (List.length_eq_zero_iff.1 (by omega)), NewB.none_ _⟩
  · refine ⟨_, cap, rfl, hnc, Or.inr ⟨_, rfl, ?_, fun j x hx => ?_⟩, fun ad e => by cases e; exact hb⟩
    · rcases Nat.lt_or_ge g w.heap.size with h1 | h1
      · exact h1
      · rw [Array.getElem?_eq_none h1] at hg; cases hg
    · have hu := u32s_get hx
      rw [← ht, List.getElem?_take] at hu
      have ha : ((⟨g, 0, none⟩ : Addr).add j) = ⟨g, j, none⟩ := by unfold Addr.add; split <;> simp_all
      rw [ha]
      split at hu
      · simp [World.cell?, hg, Array.getElem?_toList ▸ hu]
      · cases hu

/-- What a function of limbs returns: new limbs, and nothing that was there has changed. -/
def RetLim (w : World) (r : Nat) (e : Ending) (w' : World) : Prop := ∃ A n c, e = .returned (.slice A n c) ∧ Hid (n = (lim r).length) ∧ Lim w' A (lim r) ∧ n ≤ c ∧ NewB w.heap.size A ∧ Up w w'

theorem new_one (w : World) (x : Nat) (z : Int) (t : TypeId) (h : z = x) : ∀ j u, (u32s [x])[j]? = some u → (w.alloc (.cells #[.int .u32 z] t)).cell? ((⟨w.heap.size, 0, none⟩ : Addr).add j) = some u := by
  intro j u hj
  subst h
  match j, hj with
  | 0, hj =>
    simp [u32s] at hj
    subst hj
    exact cell_new _ _ _
theorem up_append {w wr w1 : World} {e : TypeId} {v : Value} {n : Nat} {xs : List Value} {o : Obj} (hup : Up w wr) (hown : wr.ownsRow w.heap.size e 1 v n xs) (hg : (wr.alloc o).grownBy w1 v.ownBlock) : Up w w1 :=
  (hup.alloc o).grown hg (fun k hk => (hown.lt k hk).1)
/-- The end of a function that trims what it has made. -/
theorem ret_trim {w w' : World} {A : Option Addr} {o : List Nat} {k c r : Nat} (hA : Lim w' A o) (hd : Dig o) (hk : k = o.length) (hr : val o = r) (hc : k ≤ c) (hnew : NewB w.heap.size A) (hu : Up w w') :
    RetLim w r (.returned (.slice A (keep o k) c)) w' := by
  subst hk
  subst hr
  refine ⟨A, _, c, rfl, keep_len hd, ?_, Nat.le_trans (keep_le _ _) hc, hnew, hu⟩
  rw [← trim_lim hd]; exact hA.take _
end Go.Proofs.YtldifgfpecicnaaGreatDoor
/- The laws of append and make at []uint32 in this program, in the words of Base2. -/
namespace Go.Proofs.YtldifgfpecicnaaGreatDoor
open Go.RowKit

/-- A row of uint32 that the call itself has made (or nil), said of numbers. -/
def Own (w : World) (base : Nat) (v : Value) (n : Nat) (l : List Nat) : Prop := w.ownsRow base 91 1 v n (u32s l)
theorem Own.len {w : World} {base : Nat} {v : Value} {n : Nat} {l : List Nat} (h : Own w base v n l) : l.length = n := by
  have := h.1; rw [u32s_len] at this; omega
theorem Own.nil (w : World) (base : Nat) : Own w base (.slice none 0 0) 0 [] := World.ownsRow_nil _ _ _ _
theorem up_grown {w w' : World} (h : Up w w') : w.grownBy w' none := ⟨h.os, h.tape, h.output, h.size, fun k hk _ => h.block k hk⟩
theorem Own.up {w w' : World} {base : Nat} {v : Value} {n : Nat} {l : List Nat} (h : Own w base v n l) (hu : Up w w') : Own w' base v n l := by
  unfold Own at h ⊢
  by_cases hn : v.ownBlock = none
  · exact h.kept (up_grown hu) (.inl hn)
  · exact h.kept (up_grown hu) (.inr hn)
theorem Own.lim {w : World} {base : Nat} {v : Value} {n : Nat} {l : List Nat} (h : Own w base v n l) : ∃ A c, v = .slice A n c ∧ n ≤ c ∧ Lim w A l ∧ NewB base A := own_lim h
theorem Own.lt {w : World} {base : Nat} {v : Value} {n : Nat} {l : List Nat} (h : Own w base v n l) : ∀ k, v.ownBlock = some k → base ≤ k ∧ k < w.heap.size := World.ownsRow.lt h
theorem Own.cell {w : World} {base g n c : Nat} {l : List Nat} (h : Own w base (.slice (some ⟨g, 0, none⟩) n c) n l) {j : Nat} (hj : j < n) : w.cell? ⟨g, j, none⟩ = some (.int .u32 ((l.getD j 0 : Nat) : Int)) := by
  have hl := h.len
  rw [World.ownsRow.cellAt h j (by omega)]
  have hjl : j < l.length := by omega
  rw [u32s_get (x := l.getD j 0)]
  simp [List.getD, hjl]
theorem Own.frozen {w : World} {base g n c : Nat} {l : List Nat} (h : Own w base (.slice (some ⟨g, 0, none⟩) n c) n l) (j : Nat) : w.frozen? ⟨g, j, none⟩ = false := World.ownsRow.frozenAt h j
theorem u32s_set (l : List Nat) (j x : Nat) : (u32s l).set j (.int .u32 (x : Int)) = u32s (l.set j x) := by simp [u32s, List.map_set]
theorem Own.set_ {w : World} {base g n c : Nat} {l : List Nat} (h : Own w base (.slice (some ⟨g, 0, none⟩) n c) n l) (j x : Nat) : Own (w.setCell ⟨g, j, none⟩ (.int .u32 (x : Int))) base (.slice (some ⟨g, 0, none⟩) n c) n (l.set j x) := by
  have := (World.ownsRow.stored h j (.int .u32 (x : Int))).1
  rw [u32s_set] at this
  exact this
theorem Own.form {w : World} {base n : Nat} {v : Value} {l : List Nat} (h : Own w base v n l) (hn : 0 < n) : ∃ g c, v = .slice (some ⟨g, 0, none⟩) n c ∧ base ≤ g ∧ g < w.heap.size ∧ n ≤ c := by
  rcases h.2 with ⟨_, h0⟩ | ⟨g, cap, cur, rfl, hb, hg, hnc, _⟩
  · omega
  · exact ⟨g, cap, rfl, hb, (World.ownsRow.lt h g rfl).2, hnc⟩
/-- A literal of numbers in a new block is owned. -/
theorem Own.lit (w : World) {base n : Nat} (l : List Nat) (cs : Array Value) (hb : base ≤ w.heap.size) (hn : n ≤ 1000000) (hl : l.length = n) (hcs : cs = (u32s l).toArray) :
    Own (w.alloc (.cells cs 91)) base (.slice (some ⟨w.heap.size, 0, none⟩) n n) n l := by
  subst hcs
  have h := World.ownsRow_lit (e := 91) (size := 1) w (u32s l).toArray n hb (by unfold maxLen; omega) (by simp [u32s_len, hl])
  unfold Own
  simpa using h

set_option maxRecDepth 100000 in
theorem run_app (w : World) (base : Nat) (ty : TypeId) (v : Value) (n : Nat) (xs : List Nat) (hown : Own w base v n xs) (A : Option Addr) (m c : Nat) (l : List Nat) (hl : l.length = m) (hA : Lim w A l) (hb : n + m ≤ 1000000) (hbase : base ≤ w.heap.size) :
    ∃ v' w', (Builtin.append_ #[22, 22] ty #[v, .slice A m c]).run Tryz.prog w = .ok v' w' ∧ Own w' base v' (n + m) (xs ++ l) ∧ w.grownBy w' v.ownBlock := by
  obtain ⟨i0, hi, hz0, hz1, hz2⟩ := info_parts Tryz.info91
  unfold Own at hown ⊢
  rw [u32s_append]
  rcases A with _ | ad
  · have hln : l = [] := by rcases hA with h | ⟨ad, h, _⟩ <;> first | exact h | cases h
    subst hln
    simp at hl
    subst hl
    refine ⟨v, w, ?_, by simpa [u32s] using hown, World.grownBy.refl w _⟩
    rcases hown.2 with ⟨rfl, rfl⟩ | ⟨g, cap, cur, rfl, _, _, hnc, _⟩
    · simp [Builtin.append_, run_underlying Tryz.underlying22, sizeOf, typeInfo, hi, Builtin.lenOf, Builtin.firstCells]
    · simp [Builtin.append_, run_underlying Tryz.underlying22, sizeOf, typeInfo, hi, Builtin.lenOf, Builtin.firstCells, hnc, storeCells]
  · have hnews : ∀ j u, (u32s l)[j]? = some u → w.cell? (ad.add j) = some u := by
      intro j u hu
      rcases hA with rfl | ⟨ad', he, _, hc⟩
      · simp [u32s] at hu
      · injection he with he
        subst he
        simp only [u32s, List.getElem?_map, Option.map_eq_some_iff] at hu
        obtain ⟨x, hx, rfl⟩ := hu
        exact hc j x hx
    obtain ⟨v', w', hr, h2, h3, _⟩ := run_append_own (P := Tryz.prog) w base 22 ty 91 i0 (.int .u32 0) 1 4 Tryz.underlying22 hi hz0 hz1 hz2 rfl (by decide) v n (u32s xs) hown ad m c (u32s l) (by rw [u32s_len]; omega) hnews (u32s_one l) (by unfold maxLen; omega) (by omega) hbase
    exact ⟨v', w', hr, h2, h3⟩

/-- append onto a row of the call's own, whatever the source. -/
theorem wp_app {w : World} {ops : Array Oper} {rest : List Oper} {o : Oper} {a : Act} {Q : Exit → Act → World → Prop} (hgd : o.guard = none) (s x : Operand)
    (ho : o.op = .call { callee := .builtin .append, args := #[s, x], argTypes := #[22, 22] })
    (base : Nat) (v : Value) (n : Nat) (xs : List Nat) (hs : a.eval s = v) (hown : Own w base v n xs) (A : Option Addr) (m c : Nat) (l : List Nat) (hx : a.eval x = .slice A m c) (hl : l.length = m) (hA : Lim w A l) (hb : n + m ≤ 1000000) (hbase : base ≤ w.heap.size)
    (h : ∀ v' w', Own w' base v' (n + m) (xs ++ l) → w.grownBy w' v.ownBlock → wpList Tryz.prog ops Q rest (a.put o.dst v') w') : wpList Tryz.prog ops Q (o :: rest) a w := by
  refine wpList_plain hgd fun K hK => ?_
  obtain ⟨v', w', hr, h2, h3⟩ := run_app w base o.type v n xs hown A m c l hl hA hb hbase
  unfold Oper.wp execOp
  simp only [ho, resolve, invoke, builtin, Sem.run_bind, Sem.run_pure, Result.andThen_ok, List.map_toArray, List.map_cons, List.map_nil, hs, hx, hr]
  exact hK _ _ (h v' w' h2 h3)

/-- make of a row of zeros. -/
theorem wp_mk {w : World} {ops : Array Oper} {rest : List Oper} {o : Oper} {a : Act} {Q : Exit → Act → World → Prop} (hgd : o.guard = none) (l c : Operand) (hop : o.op = Op.makeSlice 22 l c)
    (base n : Nat) (kl kc : IntKind) (L C : Int) (hl : a.eval l = .int kl L) (hc : a.eval c = .int kc C) (hL : L = (n : Int)) (hC : C = (n : Int)) (hn : n ≤ 1000000) (hb : base ≤ w.heap.size)
    (h : ∀ w', Own w' base (.slice (some ⟨w.heap.size, 0, none⟩) n n) n (List.replicate n 0) → Up w w' → w.heap.size < w'.heap.size → wpList Tryz.prog ops Q rest (a.put o.dst (.slice (some ⟨w.heap.size, 0, none⟩) n n)) w') :
    wpList Tryz.prog ops Q (o :: rest) a w := by
  obtain ⟨i0, hi, hz0, hz1, hz2⟩ := info_parts Tryz.info91
  refine wpList_make_full w hgd l c 22 hop base 91 i0 (.int .u32 0) 1 Tryz.underlying22 hi hz0 hz1 kl kc L C n hl hc hL hC (by rw [hz2]; omega) (by unfold maxLen; omega) hb fun w' hown hg => ?_
  rw [Nat.mul_one, show (Value.int .u32 0).cells = #[.int .u32 0] from rfl, toList_madeCells_one, show List.replicate n (Value.int .u32 0) = u32s (List.replicate n 0) by simp [u32s]] at hown
  exact h w' hown ((Up.refl w).grown hg (fun k hk => by cases hk)) (World.ownsRow.lt hown _ rfl).2
end Go.Proofs.YtldifgfpecicnaaGreatDoor
/- Whole integers in memory. -/
namespace Go.Proofs.YtldifgfpecicnaaGreatDoor
open Go.RowKit

/-- The value v is the integer z: its sign, and a slice in block B or beyond that reads as the limbs of its absolute value. -/
def IsInt (B : Nat) (w : World) (v : Value) (z : Int) : Prop :=
  ∃ s A n c, v = .agg #[.bool s, .slice A n c] ∧ Hid (s = decide (z < 0)) ∧ Hid (n = (lim z.natAbs).length) ∧ Lim w A (lim z.natAbs) ∧ n ≤ c ∧ NewB B A
theorem IsInt.up {B : Nat} {w w' : World} {v : Value} {z : Int} (h : IsInt B w v z) (hu : Up w w') : IsInt B w' v z := by
  obtain ⟨s, A, n, c, rfl, hs, hn, hl, hc, hb⟩ := h
  exact ⟨s, A, n, c, rfl, hs, hn, hl.up hu, hc, hb⟩
theorem IsInt.mono {B B' : Nat} {w : World} {v : Value} {z : Int} (h : IsInt B w v z) (hb : B' ≤ B) : IsInt B' w v z := by
  obtain ⟨s, A, n, c, rfl, hs, hn, hl, hc, hn'⟩ := h
  exact ⟨s, A, n, c, rfl, hs, hn, hl, hc, hn'.mono hb⟩
/-- The zero value. -/
def zeroInt : Value := .agg #[.bool false, .slice none 0 0]
theorem IsInt.zero (B : Nat) (w : World) : IsInt B w (.agg #[.bool false, .slice none 0 0]) 0 := ⟨false, none, 0, 0, rfl, rfl, by show (0 : Nat) = _; simp [lim_zero], by simp [lim_zero, Lim.nil], Nat.le_refl _, NewB.none_ _⟩
/-- An integer that is not too large, or the error. -/
def bnd (z : Int) : Int := if z.natAbs < top300 then z else 0
def bndE (z : Int) : Int := if z.natAbs < top300 then 0 else 3
theorem bnd_ok {z : Int} (h : z.natAbs < top300) : bnd z = z ∧ bndE z = 0 := by simp [bnd, bndE, h]
theorem bnd_no {z : Int} (h : ¬ z.natAbs < top300) : bnd z = 0 ∧ bndE z = 3 := by simp [bnd, bndE, h]
theorem bnd_lt (z : Int) : (bnd z).natAbs < top300 := by
  unfold bnd
  split
  · assumption
  · have := bas_pos 33; simp [top300]; omega
/-- What a function of integers returns. -/
def RetInt (w : World) (z : Int) (e : Ending) (w' : World) : Prop := ∃ v, e = .returned v ∧ IsInt w.heap.size w' v z ∧ Up w w'
def RetIntE (w : World) (z : Int) (e : Ending) (w' : World) : Prop := ∃ v, e = .returned (.tuple #[v, .int .i64 (bndE z)]) ∧ IsInt w.heap.size w' v (bnd z) ∧ Up w w'
/-- A sign and an absolute value. -/
def sgn (s : Bool) (n : Nat) : Int := if s then -(n : Int) else n
theorem sgn_abs (s : Bool) (n : Nat) : (sgn s n).natAbs = n := by unfold sgn; split <;> omega
theorem sgn_neg {s : Bool} {n : Nat} (h : n ≠ 0) : decide (sgn s n < 0) = s := by unfold sgn; cases s <;> simp <;> omega

theorem Up.keep {w w' : World} (h : Up w w') {a : Addr} {v : Value} (e : w.cell? a = some v) : w'.cell? a = some v := (h.cell (World.block_lt_of_cell? w _ e)).trans e
/-- Block g is just these cells, none frozen. -/
def Bk (w : World) (g : Nat) (t : TypeId) (cs : Array Value) : Prop := w.heap[g]? = some (.cells cs t (0, 0))
section
variable {w w' : World} {g : Nat} {t : TypeId} {cs : Array Value}
theorem Bk.lt (h : Bk w g t cs) : g < w.heap.size := by
  rcases Nat.lt_or_ge g w.heap.size with h1 | h1
  · exact h1
  · unfold Bk at h; rw [Array.getElem?_eq_none h1] at h; cases h
theorem Bk.cell (h : Bk w g t cs) {i : Nat} {v : Value} (hi : cs[i]? = some v) : w.cell? ⟨g, i, none⟩ = some v := by
  unfold Bk at h
  simp [World.cell?, h, hi]
theorem Bk.frozen (h : Bk w g t cs) (i : Nat) : w.frozen? ⟨g, i, none⟩ = false := by
  unfold Bk at h
  simp [World.frozen?, h]
theorem Bk.new (w : World) (t : TypeId) (cs : Array Value) : Bk (w.alloc (.cells cs t)) w.heap.size t cs := heap_alloc_new w _
theorem Bk.up (h : Bk w g t cs) (hu : Up w w') : Bk w' g t cs := (hu.block g h.lt).trans h
theorem Bk.grown {row : Option Nat} (h : Bk w g t cs) (hg : w.grownBy w' row) (hne : some g ≠ row) : Bk w' g t cs := (hg.block g h.lt hne).trans h
theorem Bk.alloc (h : Bk w g t cs) (o : Obj) : Bk (w.alloc o) g t cs := h.up ((Up.refl w).alloc o)
theorem Bk.setCell (h : Bk w g t cs) (i : Nat) (u : Value) : Bk (w.setCell ⟨g, i, none⟩ u) g t (cs.setIfInBounds i u) := by
  unfold Bk at h ⊢
  simp [World.setCell, Array.getElem?_modify, h]
theorem Bk.far (h : Bk w g t cs) {p : Addr} (hp : g ≠ p.block) (u : Value) : Bk (w.setCell p u) g t cs := (Below.heap_setCell w p u g hp).trans h
theorem Bk.far2 (h : Bk w g t cs) {g' : Nat} (hp : g ≠ g') (x y : Value) : Bk ((w.setCell ⟨g', 0, none⟩ x).setCell ⟨g', 1, none⟩ y) g t cs := (h.far (p := ⟨g', 0, none⟩) hp x).far (p := ⟨g', 1, none⟩) hp y
/-- Two cells written. -/
theorem Bk.two {c0 c1 : Value} (h : Bk w g t #[c0, c1]) (x y : Value) : ((w.setCell ⟨g, 0, none⟩ x).setCell ⟨g, 1, none⟩ y).cell? ⟨g, 0, none⟩ = some x ∧ ((w.setCell ⟨g, 0, none⟩ x).setCell ⟨g, 1, none⟩ y).cell? ⟨g, 1, none⟩ = some y := by
  have h2 := (h.setCell 0 x).setCell 1 y
  exact ⟨h2.cell (i := 0) rfl, h2.cell (i := 1) rfl⟩
theorem Bk.two_bk {c0 c1 : Value} (h : Bk w g t #[c0, c1]) (x y : Value) : Bk ((w.setCell ⟨g, 0, none⟩ x).setCell ⟨g, 1, none⟩ y) g t #[x, y] := (h.setCell 0 x).setCell 1 y
theorem Up.two {a : World} (h : Up a w) (hg : a.heap.size ≤ g) (x y : Value) : Up a ((w.setCell ⟨g, 0, none⟩ x).setCell ⟨g, 1, none⟩ y) := (h.setCell (p := ⟨g, 0, none⟩) hg x).setCell (p := ⟨g, 1, none⟩) hg y
/-- A store into a block of another type does not touch numbers. -/
theorem Lim.two {A : Option Addr} {l : List Nat} (h : Lim w A l) (hn : NewB (g + 1) A) (x y : Value) : Lim ((w.setCell ⟨g, 0, none⟩ x).setCell ⟨g, 1, none⟩ y) A l := (h.far hn x).far hn y
end
end Go.Proofs.YtldifgfpecicnaaGreatDoor
/- append as one step of a region that draws its order. -/
namespace Go.Proofs.YtldifgfpecicnaaGreatDoor
open Go.RowKit

theorem lim_one (w : World) (x : Nat) (z : Int) (hz : z = (x : Int)) : Lim (w.alloc (.cells #[.int .u32 z] 91)) (some ⟨w.heap.size, 0, none⟩) [x] := by
  subst hz
  exact Or.inr ⟨_, rfl, by simp, fun j u hj => by match j, hj with | 0, hj => (simp at hj; subst hj; exact cell_new _ _ _)⟩
theorem step_app {w : World} {ops : Array Oper} {o : Oper} {a : Act} {K : Act → World → Prop} {Q : Exit → Act → World → Prop} {E : Prop} (hgd : o.guard = none) (s x : Operand)
    (ho : o.op = .call { callee := .builtin .append, args := #[s, x], argTypes := #[22, 22] })
    (base : Nat) (v : Value) (n : Nat) (xs : List Nat) (hs : a.eval s = v) (hown : Own w base v n xs) (A : Option Addr) (m c : Nat) (l : List Nat) (hx : a.eval x = .slice A m c) (hl : l.length = m) (hA : Lim w A l) (hb : n + m ≤ 1000000) (hbase : base ≤ w.heap.size)
    (h : ∀ v' w', Own w' base v' (n + m) (xs ++ l) → w.grownBy w' v.ownBlock → K (a.put o.dst v') w') :
    if Region.wanted o (yielded ops a.tmps) = true then Oper.wp Tryz.prog o a w K Q else E := by
  have hw : Region.wanted o (yielded ops a.tmps) = true := by simp [Region.wanted, hgd]
  rw [if_pos hw]
  obtain ⟨v', w', hr, h2, h3⟩ := run_app w base o.type v n xs hown A m c l hl hA hb hbase
  unfold Oper.wp execOp
  simp only [ho, resolve, invoke, builtin, Sem.run_bind, Sem.run_pure, Result.andThen_ok, List.map_toArray, List.map_cons, List.map_nil, hs, hx, hr]
  exact h v' w' h2 h3
end Go.Proofs.YtldifgfpecicnaaGreatDoor
/- Walks: trim, digits, compare. -/
namespace Go.Proofs.YtldifgfpecicnaaGreatDoor
open Go.RowKit

theorem ret_int {k : IntKind} {a b : Int} (h : a = b) : Ending.returned (.int k a) = .returned (.int k b) := by rw [h]
theorem ret_bool {a b : Bool} (h : a = b) : Ending.returned (.bool a) = .returned (.bool b) := by rw [h]

set_option maxRecDepth 100000 in
set_option maxHeartbeats 400000 in
theorem wide_any (x : Nat) (w : World) (_h : x < 4294967296) : Calls Tryz.prog 82 #[.int .u32 x] w fun e w' => e = .returned (.bool (decide ((1000000000 : Int) ≤ (x : Int)))) ∧ w = w' := by
  go_enter Tryz.func82, Tryz.ntmps82
  go_wp2
  go_ret
  exact ⟨rfl, rfl⟩

set_option maxRecDepth 100000 in
set_option maxHeartbeats 400000 in
theorem trim_any (A : Option Addr) (c : Nat) (l : List Nat) (w : World) (h : Lim w A l) (n : Nat) (Hn : Hid (n = l.length)) (hl : n ≤ 1000000) (hc : n ≤ c) :
    Calls Tryz.prog 131 #[.slice A n c] w fun e w' => e = .returned (.slice A (keep l n) c) ∧ w = w' := by
  go_enter Tryz.func131, Tryz.ntmps131
  go_wp2
  go_loop [3] (fun i => ∃ k : Nat, k ≤ n ∧ i = .int .i64 k ∧ keep l k = keep l n) (fun i => (intOf i).toNat)
  case atStart => exact ⟨n, Nat.le_refl _, rfl, rfl⟩
  case round =>
    obtain ⟨k, hk, rfl, hkeep⟩ := hrel
    have HK := Lib.hid hkeep
    clear hkeep
    by_cases hpos : 0 < k
    · obtain ⟨k, rfl⟩ : ∃ m, k = m + 1 := ⟨k - 1, by omega⟩
      obtain ⟨ad, rfl, hb, hcell⟩ := h.at_ (k := k) (by have := Hn.out; omega)
      by_cases hz : l.getD k 0 = 0
      · have hstep : Hid (keep l (k + 1) = keep l k) := by show keep l (k + 1) = keep l k; rw [keep, if_pos hz]
        have hz0 : ((l[k]?.getD 0 : Nat) : Int) == 0 := by have : l[k]?.getD 0 = 0 := hz; simp [this]
        clear hz
        go_wp2
        go_round
        case rel => exact ⟨k, by omega, by go_num, hstep.out.symm.trans HK.out⟩
        case measure => simp [intOf]
      · have hstep : Hid (keep l (k + 1) = k + 1) := by show keep l (k + 1) = k + 1; rw [keep, if_neg hz]
        have hz0 : (((l[k]?.getD 0 : Nat) : Int) == 0) = false := by have : l[k]?.getD 0 ≠ 0 := hz; rw [beq_eq_false_iff_ne]; omega
        clear hz
        go_wp2
        go_ret
        refine ⟨?_, rfl⟩
        rw [← HK.out, hstep.out]; rfl
    · obtain rfl : k = 0 := by omega
      go_wp2
      go_ret
      refine ⟨?_, rfl⟩
      rw [← HK.out]; rfl

set_option maxRecDepth 100000 in
set_option maxHeartbeats 400000 in
theorem digits_any (A : Option Addr) (c : Nat) (l : List Nat) (w : World) (h : Lim w A l) (hw : W32 l) (n : Nat) (Hn : Hid (n = l.length)) (hl : n ≤ 1000000) :
    Calls Tryz.prog 80 #[.slice A n c] w fun e w' => e = .returned (.int .i64 (digs l)) ∧ w = w' := by
  by_cases hz : n = 0
  · subst hz
    have hd : Hid (digs l = 0) := by show digs l = 0; unfold digs; rw [if_pos (by rw [← Hn.out])]
    go_enter Tryz.func80, Tryz.ntmps80
    go_wp2
    go_ret
    exact ⟨by rw [hd.out]; rfl, rfl⟩
  · obtain ⟨n, rfl⟩ : ∃ m, n = m + 1 := ⟨n - 1, by omega⟩
    obtain ⟨ad, rfl, hb, hcell⟩ := h.at_ (k := n) (by have := Hn.out; omega)
    have hx := W32.getD hw n
    have hd : Hid (digs l = 9 * n + dgt (l.getD n 0)) := by
      show digs l = _; unfold digs; rw [if_neg (by rw [← Hn.out]; omega), ← Hn.out]; rfl
    obtain ⟨x, hxe⟩ : ∃ x, x = l.getD n 0 := ⟨_, rfl⟩
    rw [← hxe] at hcell hx hd
    have h10 : Hid (dgt x ≤ 10) := dgt_le.2 (Nat.lt_of_lt_of_le hx (by decide))
    clear hxe hw
    go_enter Tryz.func80, Tryz.ntmps80
    go_wp2
    go_loop [3, 4] (fun m t => ∃ y k : Nat, y ≤ 4294967295 ∧ t = .int .u32 y ∧ m = .int .i64 k ∧ k ≤ 9000010 ∧ k + dgt y = 9 * n + dgt x) (fun _ t => (intOf t).toNat)
    case atStart => exact ⟨x, 9 * n, by omega, rfl, by go_num, by omega, rfl⟩
    case round =>
      obtain ⟨y, k, hy, rfl, rfl, hk, hr⟩ := hrel
      have HR := Lib.hid hr
      clear hr
      by_cases hpos : 0 < y
      · have hs : Hid (dgt y = dgt (y / 10) + 1) := dgt_pos (by omega)
        have hk2 : k ≤ 9000009 := by have := HR.out; have := hs.out; have := h10.out; omega
        go_wp2
        go_round
        case rel => exact ⟨y / 10, k + 1, by omega, by go_num, by go_num, by omega, by have := HR.out; have := hs.out; omega⟩
        case measure => simp [intOf]; omega
      · obtain rfl : y = 0 := by omega
        go_wp2
        go_ret
        refine ⟨?_, rfl⟩
        have h1 := HR.out
        rw [dgt_zero] at h1
        rw [hd.out, ← h1]; rfl

set_option maxRecDepth 100000 in
set_option maxHeartbeats 400000 in
theorem cmpInt_any (x y : Nat) (w : World) (_hx : x ≤ 1000000000000) (_hy : y ≤ 1000000000000) : Calls Tryz.prog 119 #[.int .i64 x, .int .i64 y] w fun e w' => e = .returned (.int .i64 (cmpN x y)) ∧ w = w' := by
  rcases Nat.lt_trichotomy x y with h | h | h
  · have hc := Lib.hid (cmpN_lt h)
    go_enter Tryz.func119, Tryz.ntmps119
    go_wp2
    go_ret
    exact ⟨by rw [hc.out]; rfl, rfl⟩
  · subst h
    have hc := Lib.hid (cmpN_self x)
    go_enter Tryz.func119, Tryz.ntmps119
    go_wp2
    go_ret
    exact ⟨by rw [hc.out]; rfl, rfl⟩
  · have hc := Lib.hid (cmpN_gt h)
    go_enter Tryz.func119, Tryz.ntmps119
    go_wp2
    go_ret
    exact ⟨by rw [hc.out]; rfl, rfl⟩
set_option maxRecDepth 100000 in
set_option maxHeartbeats 400000 in
theorem cmpU32_any (x y : Nat) (w : World) (_hx : x < 4294967296) (_hy : y < 4294967296) : Calls Tryz.prog 120 #[.int .u32 x, .int .u32 y] w fun e w' => e = .returned (.int .i64 (cmpN x y)) ∧ w = w' := by
  rcases Nat.lt_trichotomy x y with h | h | h
  · have hc := Lib.hid (cmpN_lt h)
    go_enter Tryz.func120, Tryz.ntmps120
    go_wp2
    go_ret
    exact ⟨by rw [hc.out]; rfl, rfl⟩
  · subst h
    have hc := Lib.hid (cmpN_self x)
    go_enter Tryz.func120, Tryz.ntmps120
    go_wp2
    go_ret
    exact ⟨by rw [hc.out]; rfl, rfl⟩
  · have hc := Lib.hid (cmpN_gt h)
    go_enter Tryz.func120, Tryz.ntmps120
    go_wp2
    go_ret
    exact ⟨by rw [hc.out]; rfl, rfl⟩

set_option maxRecDepth 100000 in
set_option maxHeartbeats 1000000 in
theorem compare_any (A B : Option Addr) (c d a b : Nat) (w : World) (hA : Lim w A (lim a)) (hB : Lim w B (lim b)) (n m : Nat) (Hn : Hid (n = (lim a).length)) (Hm : Hid (m = (lim b).length)) (hn : n ≤ 1000000) (hm : m ≤ 1000000) :
    Calls Tryz.prog 90 #[.slice A n c, .slice B m d] w fun e w' => e = .returned (.int .i64 (cmpN a b)) ∧ ∃ q, w' = w.drewN q := by
  by_cases hnm : n = m
  · subst hnm
    go_enter Tryz.func90, Tryz.ntmps90
    go_wp2
    go_loopw [5] (fun i wr => ∃ (j : Int) (k q : Nat), k ≤ n ∧ i = .int .i64 j ∧ j + 1 = k ∧ (lim a).drop k = (lim b).drop k ∧ wr = w.drewN q) (fun i _ => (intOf i + 1).toNat)
    case atStart => exact ⟨_, n, 0, by omega, rfl, by omega, by rw [List.drop_eq_nil_of_le (by rw [← Hn.out]; omega), List.drop_eq_nil_of_le (by rw [← Hm.out]; omega)], rfl⟩
    case round =>
      obtain ⟨j, k, q, hk, rfl, hj, hdrop, rfl⟩ := hrel
      have HD := Lib.hid hdrop
      clear hdrop
      by_cases hpos : 0 < k
      · obtain ⟨k, rfl⟩ : ∃ m, k = m + 1 := ⟨k - 1, by omega⟩
        obtain rfl : j = (k : Int) := by omega
        clear hj hpos
        obtain ⟨ad, rfl, hb, hcell⟩ := hA.at_ (k := k) (by have := Hn.out; omega)
        obtain ⟨bd, rfl, hb2, hcell2⟩ := hB.at_ (k := k) (by have := Hm.out; omega)
        have hx := W32.getD (dig_lim a).w32 k
        have hy := W32.getD (dig_lim b).w32 k
        have hak : k < (lim a).length := by rw [← Hn.out]; omega
        have hbk : k < (lim b).length := by rw [← Hm.out]; omega
        have HL : Hid ((lim a).getD k 0 < (lim b).getD k 0 → cmpN a b = -1) := fun hl => cmpN_lt (by have := val_lt_of (dig_lim a) hak hbk HD.out hl; rwa [val_lim, val_lim] at this)
        have HG : Hid ((lim b).getD k 0 < (lim a).getD k 0 → cmpN a b = 1) := fun hl => cmpN_gt (by have := val_lt_of (dig_lim b) hbk hak HD.out.symm hl; rwa [val_lim, val_lim] at this)
        have HE : Hid ((lim a).getD k 0 = (lim b).getD k 0 → (lim a).drop k = (lim b).drop k) := fun he => by
          have e : ∀ (l : List Nat), k < l.length → l.drop k = l.getD k 0 :: l.drop (k + 1) := fun l hl => by rw [List.drop_eq_getElem_cons hl]; simp [List.getD, hl]
          rw [e _ hak, e _ hbk, he, HD.out]
        clear hA hB hak hbk HD
        obtain ⟨x, hxe⟩ : ∃ x, x = (lim a).getD k 0 := ⟨_, rfl⟩
        obtain ⟨y, hye⟩ : ∃ y, y = (lim b).getD k 0 := ⟨_, rfl⟩
        rw [← hxe] at hcell hx HL HG HE
        rw [← hye] at hcell2 hy HL HG HE
        clear hxe hye
        by_cases hxy : x = y
        · subst hxy
          have hq : ((x : Int) != (x : Int)) = false := by simp
          have HE2 : Hid ((lim a).drop k = (lim b).drop k) := HE.out rfl
          clear HE HL HG
          go_wp2
          go_quiet (fail)
          go_wp2
          go_roundw
          case rel => exact ⟨_, k, _, by omega, rfl, by omega, HE2.out, rfl⟩
          case measure => simp [intOf]
        · have hq : ((x : Int) != (y : Int)) = true := by rw [bne_iff_ne]; omega
          have HC : Hid (cmpN a b = cmpN x y) := by
            show cmpN a b = cmpN x y
            rcases Nat.lt_or_gt_of_ne hxy with h | h
            · rw [HL.out h, cmpN_lt h]
            · rw [HG.out h, cmpN_gt h]
          go_wp2
          go_quiet (fail)
          go_wp2
          go_quiet ((go_at_call 120; exact quiet_add_left' (cmpU32_any x y _ hx hy)))
          go_wp2
          go_ret
          exact ⟨by rw [HC.out]; rfl, _, by rw [World.drewN_drewN, World.drewN_drewN]⟩
      · obtain rfl : k = 0 := by omega
        obtain rfl : j = -1 := by omega
        have HC : Hid (cmpN a b = 0) := by
          have h0 : lim a = lim b := HD.out
          show cmpN a b = 0
          rw [lim_inj h0, cmpN_self]
        go_wp2
        go_ret
        exact ⟨by rw [HC.out]; rfl, _, rfl⟩
  · have hq : ((n : Int) != (m : Int)) = true := by rw [bne_iff_ne]; omega
    have HC : Hid (cmpN a b = cmpN n m) := by
      show cmpN a b = cmpN n m
      have h1 := Hn.out
      have h2 := Hm.out
      rcases Nat.lt_or_gt_of_ne hnm with h | h
      · rw [cmpN_lt h, cmpN_lt (lim_lt_of_len (by omega))]
      · rw [cmpN_gt h, cmpN_gt (lim_lt_of_len (by omega))]
    go_enter Tryz.func90, Tryz.ntmps90
    go_wp2_with (go_at_call 119; refine (cmpInt_any n m _ (by omega) (by omega)).mono ?_; rintro e w' ⟨rfl, rfl⟩)
    go_ret
    exact ⟨by rw [HC.out]; rfl, 0, rfl⟩
end Go.Proofs.YtldifgfpecicnaaGreatDoor
/- Walks: the reference's trim, digits, cmp, limb. -/
namespace Go.Proofs.YtldifgfpecicnaaGreatDoor
open Go.RowKit

set_option maxRecDepth 100000 in
set_option maxHeartbeats 400000 in
theorem rtrim_any (A : Option Addr) (c : Nat) (l : List Nat) (w : World) (h : Lim w A l) (n : Nat) (Hn : Hid (n = l.length)) (hl : n ≤ 1000000) (hc : n ≤ c) :
    Calls Tryz.prog 113 #[.slice A n c] w fun e w' => e = .returned (.slice A (keep l n) c) ∧ w = w' := by
  go_enter Tryz.func113, Tryz.ntmps113
  go_wp2
  go_loop [0] (fun i => ∃ k : Nat, k ≤ n ∧ i = .slice A k c ∧ keep l k = keep l n) (fun i => match i with | .slice _ k _ => k | _ => 0)
  case atStart => exact ⟨n, Nat.le_refl _, rfl, rfl⟩
  case round =>
    obtain ⟨k, hk, rfl, hkeep⟩ := hrel
    have HK := Lib.hid hkeep
    clear hkeep
    by_cases hpos : 0 < k
    · obtain ⟨k, rfl⟩ : ∃ m, k = m + 1 := ⟨k - 1, by omega⟩
      obtain ⟨ad, rfl, hb, hcell⟩ := h.at_ (k := k) (by have := Hn.out; omega)
      by_cases hz : l.getD k 0 = 0
      · have hstep : Hid (keep l (k + 1) = keep l k) := by show keep l (k + 1) = keep l k; rw [keep, if_pos hz]
        have hz0 : ((l[k]?.getD 0 : Nat) : Int) == 0 := by have : l[k]?.getD 0 = 0 := hz; simp [this]
        clear hz
        go_wp2
        go_round
        case rel => exact ⟨k, by omega, rfl, hstep.out.symm.trans HK.out⟩
        case measure => simp
      · have hstep : Hid (keep l (k + 1) = k + 1) := by show keep l (k + 1) = k + 1; rw [keep, if_neg hz]
        have hz0 : (((l[k]?.getD 0 : Nat) : Int) == 0) = false := by have : l[k]?.getD 0 ≠ 0 := hz; rw [beq_eq_false_iff_ne]; omega
        clear hz
        go_wp2
        go_ret
        refine ⟨?_, rfl⟩
        rw [← HK.out, hstep.out]; rfl
    · obtain rfl : k = 0 := by omega
      go_wp2
      go_ret
      refine ⟨?_, rfl⟩
      rw [← HK.out]; rfl

set_option maxRecDepth 100000 in
set_option maxHeartbeats 400000 in
theorem rdigits_any (A : Option Addr) (c : Nat) (l : List Nat) (w : World) (h : Lim w A l) (hw : W32 l) (n : Nat) (Hn : Hid (n = l.length)) (hl : n ≤ 1000000) :
    Calls Tryz.prog 83 #[.slice A n c] w fun e w' => e = .returned (.int .i64 (digs l)) ∧ w = w' := by
  by_cases hz : n = 0
  · subst hz
    have hd : Hid (digs l = 0) := by show digs l = 0; unfold digs; rw [if_pos (by rw [← Hn.out])]
    go_enter Tryz.func83, Tryz.ntmps83
    go_wp2
    go_ret
    exact ⟨by rw [hd.out]; rfl, rfl⟩
  · obtain ⟨n, rfl⟩ : ∃ m, n = m + 1 := ⟨n - 1, by omega⟩
    obtain ⟨ad, rfl, hb, hcell⟩ := h.at_ (k := n) (by have := Hn.out; omega)
    have hx := W32.getD hw n
    have hd : Hid (digs l = 9 * n + dgt (l.getD n 0)) := by
      show digs l = _; unfold digs; rw [if_neg (by rw [← Hn.out]; omega), ← Hn.out]; rfl
    obtain ⟨x, hxe⟩ : ∃ x, x = l.getD n 0 := ⟨_, rfl⟩
    rw [← hxe] at hcell hx hd
    have h10 : Hid (dgt x ≤ 10) := dgt_le.2 (Nat.lt_of_lt_of_le hx (by decide))
    clear hxe hw
    go_enter Tryz.func83, Tryz.ntmps83
    go_wp2
    go_loop [3, 4] (fun m t => ∃ y k : Nat, y ≤ 4294967295 ∧ t = .int .u32 y ∧ m = .int .i64 k ∧ k ≤ 9000010 ∧ k + dgt y = 9 * n + dgt x) (fun _ t => (intOf t).toNat)
    case atStart => exact ⟨x, 9 * n, by omega, rfl, by go_num, by omega, rfl⟩
    case round =>
      obtain ⟨y, k, hy, rfl, rfl, hk, hr⟩ := hrel
      have HR := Lib.hid hr
      clear hr
      by_cases hpos : 0 < y
      · have hs : Hid (dgt y = dgt (y / 10) + 1) := dgt_pos (by omega)
        have hk2 : k ≤ 9000009 := by have := HR.out; have := hs.out; have := h10.out; omega
        go_wp2
        go_round
        case rel => exact ⟨y / 10, k + 1, by omega, by go_num, by go_num, by omega, by have := HR.out; have := hs.out; omega⟩
        case measure => simp [intOf]; omega
      · obtain rfl : y = 0 := by omega
        go_wp2
        go_ret
        refine ⟨?_, rfl⟩
        have h1 := HR.out
        rw [dgt_zero] at h1
        rw [hd.out, ← h1]; rfl

set_option maxRecDepth 100000 in
set_option maxHeartbeats 1000000 in
theorem rcmp_any (A B : Option Addr) (c d a b : Nat) (w : World) (hA : Lim w A (lim a)) (hB : Lim w B (lim b)) (n m : Nat) (Hn : Hid (n = (lim a).length)) (Hm : Hid (m = (lim b).length)) (hn : n ≤ 1000000) (hm : m ≤ 1000000) :
    Calls Tryz.prog 110 #[.slice A n c, .slice B m d] w fun e w' => e = .returned (.int .i64 (cmpN a b)) ∧ ∃ q, w' = w.drewN q := by
  by_cases hnm : n = m
  · subst hnm
    go_enter Tryz.func110, Tryz.ntmps110
    go_wp2
    go_loopw [5] (fun i wr => ∃ (j : Int) (k q : Nat), k ≤ n ∧ i = .int .i64 j ∧ j + 1 = k ∧ (lim a).drop k = (lim b).drop k ∧ wr = w.drewN q) (fun i _ => (intOf i + 1).toNat)
    case atStart => exact ⟨_, n, 0, by omega, rfl, by omega, by rw [List.drop_eq_nil_of_le (by rw [← Hn.out]; omega), List.drop_eq_nil_of_le (by rw [← Hm.out]; omega)], rfl⟩
    case round =>
      obtain ⟨j, k, q, hk, rfl, hj, hdrop, rfl⟩ := hrel
      have HD := Lib.hid hdrop
      clear hdrop
      by_cases hpos : 0 < k
      · obtain ⟨k, rfl⟩ : ∃ m, k = m + 1 := ⟨k - 1, by omega⟩
        obtain rfl : j = (k : Int) := by omega
        clear hj hpos
        obtain ⟨ad, rfl, hb, hcell⟩ := hA.at_ (k := k) (by have := Hn.out; omega)
        obtain ⟨bd, rfl, hb2, hcell2⟩ := hB.at_ (k := k) (by have := Hm.out; omega)
        have hx := W32.getD (dig_lim a).w32 k
        have hy := W32.getD (dig_lim b).w32 k
        have hak : k < (lim a).length := by rw [← Hn.out]; omega
        have hbk : k < (lim b).length := by rw [← Hm.out]; omega
        have HL : Hid ((lim a).getD k 0 < (lim b).getD k 0 → cmpN a b = -1) := fun hl => cmpN_lt (by have := val_lt_of (dig_lim a) hak hbk HD.out hl; rwa [val_lim, val_lim] at this)
        have HG : Hid ((lim b).getD k 0 < (lim a).getD k 0 → cmpN a b = 1) := fun hl => cmpN_gt (by have := val_lt_of (dig_lim b) hbk hak HD.out.symm hl; rwa [val_lim, val_lim] at this)
        have HE : Hid ((lim a).getD k 0 = (lim b).getD k 0 → (lim a).drop k = (lim b).drop k) := fun he => by
          have e : ∀ (l : List Nat), k < l.length → l.drop k = l.getD k 0 :: l.drop (k + 1) := fun l hl => by rw [List.drop_eq_getElem_cons hl]; simp [List.getD, hl]
          rw [e _ hak, e _ hbk, he, HD.out]
        clear hA hB hak hbk HD
        obtain ⟨x, hxe⟩ : ∃ x, x = (lim a).getD k 0 := ⟨_, rfl⟩
        obtain ⟨y, hye⟩ : ∃ y, y = (lim b).getD k 0 := ⟨_, rfl⟩
        rw [← hxe] at hcell hx HL HG HE
        rw [← hye] at hcell2 hy HL HG HE
        clear hxe hye
        rcases Nat.lt_trichotomy x y with hxy | hxy | hxy
        · have HC : Hid (cmpN a b = -1) := HL.out hxy
          clear HE HL HG
          go_wp2
          go_quiet (fail)
          go_wp2
          go_ret
          exact ⟨by rw [HC.out]; rfl, _, by rw [World.drewN_drewN]⟩
        · subst hxy
          have HE2 : Hid ((lim a).drop k = (lim b).drop k) := HE.out rfl
          clear HE HL HG
          go_wp2
          go_quiet (fail)
          go_wp2
          go_quiet (fail)
          go_wp2
          go_roundw
          case rel => exact ⟨_, k, _, by omega, rfl, by omega, HE2.out, rfl⟩
          case measure => simp [intOf]
        · have HC : Hid (cmpN a b = 1) := HG.out hxy
          clear HE HL HG
          go_wp2
          go_quiet (fail)
          go_wp2
          go_quiet (fail)
          go_wp2
          go_ret
          exact ⟨by rw [HC.out]; rfl, _, by rw [World.drewN_drewN, World.drewN_drewN]⟩
      · obtain rfl : k = 0 := by omega
        obtain rfl : j = -1 := by omega
        have HC : Hid (cmpN a b = 0) := by
          have h0 : lim a = lim b := HD.out
          show cmpN a b = 0
          rw [lim_inj h0, cmpN_self]
        go_wp2
        go_ret
        exact ⟨by rw [HC.out]; rfl, _, rfl⟩
  · have hq : ((n : Int) != (m : Int)) = true := by rw [bne_iff_ne]; omega
    have h1 := Hn.out
    have h2 := Hm.out
    rcases Nat.lt_or_gt_of_ne hnm with h | h
    · have HC : Hid (cmpN a b = -1) := cmpN_lt (lim_lt_of_len (by omega))
      clear h1 h2
      go_enter Tryz.func110, Tryz.ntmps110
      go_wp2
      go_ret
      exact ⟨by rw [HC.out]; rfl, 0, rfl⟩
    · have HC : Hid (cmpN a b = 1) := cmpN_gt (lim_lt_of_len (by omega))
      clear h1 h2
      go_enter Tryz.func110, Tryz.ntmps110
      go_wp2
      go_ret
      exact ⟨by rw [HC.out]; rfl, 0, rfl⟩

set_option maxRecDepth 100000 in
set_option maxHeartbeats 400000 in
theorem limb_any (A : Option Addr) (c : Nat) (l : List Nat) (w : World) (h : Lim w A l) (n i x : Nat) (Hn : Hid (n = l.length)) (Hx : Hid (x = l.getD i 0)) (hx : x < 4294967296) :
    Calls Tryz.prog 136 #[.slice A n c, .int .i64 i] w fun e w' => e = .returned (.int .u64 x) ∧ w = w' := by
  by_cases hin : i < n
  · obtain ⟨ad, rfl, hb, hcell⟩ := h.at_ (k := i) (by have := Hn.out; omega)
    rw [← Hx.out] at hcell
    go_enter Tryz.func136, Tryz.ntmps136
    go_wp2
    go_ret
    exact ⟨rfl, rfl⟩
  · have hz : Hid (x = 0) := by show x = 0; rw [Hx.out]; simp [List.getD, List.getElem?_eq_none (show l.length ≤ i by have := Hn.out; omega)]
    clear hx
    go_enter Tryz.func136, Tryz.ntmps136
    go_wp2
    go_ret
    exact ⟨by rw [hz.out]; rfl, rfl⟩
end Go.Proofs.YtldifgfpecicnaaGreatDoor
/- Walks: functions of whole integers that only read: the reference's Equal, Sign, Few; the program's signed. -/
namespace Go.Proofs.YtldifgfpecicnaaGreatDoor
open Go.RowKit

set_option maxRecDepth 100000 in
set_option maxHeartbeats 1000000 in
theorem equal_any (s : Bool) (A B : Option Addr) (c d n : Nat) (l : List Nat) (w : World) (hA : Lim w A l) (hB : Lim w B l) (hw : W32 l) (Hn : Hid (n = l.length)) (hn : n ≤ 1000000) :
    Calls Tryz.prog 53 #[.agg #[.bool s, .slice A n c], .agg #[.bool s, .slice B n d]] w fun e w' => e = .returned (.bool true) ∧ Up w w' := by
  have hs : (s != s) = false := by simp
  go_enter Tryz.func53, Tryz.ntmps53
  go_wp2
  go_loopw [5] (fun i wr => ∃ k : Nat, k ≤ n ∧ i = .int .i64 k ∧ Up w wr ∧ wr.cell? ⟨w.heap.size, 1, none⟩ = some (.slice A n c) ∧ wr.cell? ⟨w.heap.size + 1, 1, none⟩ = some (.slice B n d)) (fun i _ => n - (intOf i).toNat)
  case atStart => exact ⟨0, by omega, rfl, ((Up.refl w).alloc _).alloc _, by go_simp, by go_simp⟩
  case round =>
    obtain ⟨k, hk, rfl, hup, hc1, hc2⟩ := hrel
    by_cases hlt : k < n
    · obtain ⟨ad, rfl, hb, hcell⟩ := (hA.up hup).at_ (k := k) (by have := Hn.out; omega)
      obtain ⟨bd, rfl, hb2, hcell2⟩ := (hB.up hup).at_ (k := k) (by have := Hn.out; omega)
      have hx := W32.getD hw k
      obtain ⟨x, hxe⟩ : ∃ x, x = l.getD k 0 := ⟨_, rfl⟩
      rw [← hxe] at hcell hcell2 hx
      have hq : ((x : Int) != (x : Int)) = false := by simp
      clear hxe hw hA hB
      go_wp2
      go_quiet (fail)
      go_wp2
      go_roundw
      case rel => exact ⟨k + 1, by omega, by go_num, hup.drewN _, by go_simp, by go_simp⟩
      case measure => simp [intOf]; omega
    · obtain rfl : k = n := by omega
      go_wp2
      go_ret
      exact ⟨rfl, hup⟩

set_option maxRecDepth 100000 in
set_option maxHeartbeats 400000 in
theorem rsign_any (s : Bool) (A : Option Addr) (c n : Nat) (w : World) (_hn : n ≤ 1000000) :
    Calls Tryz.prog 37 #[.agg #[.bool s, .slice A n c]] w fun e w' => e = .returned (.int .i64 (if n = 0 then 0 else if s then -1 else 1)) ∧ Up w w' := by
  by_cases hz : n = 0
  · subst hz
    go_enter Tryz.func37, Tryz.ntmps37
    go_wp2
    go_ret
    exact ⟨rfl, (Up.refl w).alloc _⟩
  · have hz0 : ((n : Int) == 0) = false := by rw [beq_eq_false_iff_ne]; omega
    rw [if_neg hz]
    cases s
    · go_enter Tryz.func37, Tryz.ntmps37
      go_wp2
      go_ret
      exact ⟨rfl, (Up.refl w).alloc _⟩
    · go_enter Tryz.func37, Tryz.ntmps37
      go_wp2
      go_ret
      exact ⟨rfl, (Up.refl w).alloc _⟩

set_option maxRecDepth 100000 in
set_option maxHeartbeats 400000 in
theorem few_any (s : Bool) (A : Option Addr) (c n : Nat) (k : Int) (w : World) :
    Calls Tryz.prog 13 #[.agg #[.bool s, .slice A n c], .int .i64 k] w fun e w' => e = .returned (.bool (decide ((n : Int) ≤ k))) ∧ Up w w' := by
  go_enter Tryz.func13, Tryz.ntmps13
  go_wp2
  go_ret
  exact ⟨rfl, (Up.refl w).alloc _⟩

set_option maxRecDepth 100000 in
set_option maxHeartbeats 400000 in
theorem signed_any (s : Bool) (A : Option Addr) (c n : Nat) (w : World) (hn : n ≤ 1000000) :
    Calls Tryz.prog 86 #[.bool s, .slice A n c] w fun e w' => e = .returned (.agg #[.bool (s && decide (0 < n)), .slice A n c]) ∧ Up w w' := by
  by_cases hz : n = 0
  · subst hz
    cases s <;> (
      go_enter Tryz.func86, Tryz.ntmps86
      go_wp2
      exact bodyPost_ret (v := .agg #[.bool false, .slice A 0 c]) (by simp [results, Tryz.results86, go_sem]) rfl ⟨rfl, (Up.refl w).alloc _⟩)
  · have hd : decide (0 < n) = true := by simp; omega
    rw [hd]
    cases s
    · go_enter Tryz.func86, Tryz.ntmps86
      go_wp2
      exact bodyPost_ret (v := .agg #[.bool false, .slice A n c]) (by simp [results, Tryz.results86, go_sem]) rfl ⟨rfl, (Up.refl w).alloc _⟩
    · go_enter Tryz.func86, Tryz.ntmps86
      go_wp2
      exact bodyPost_ret (v := .agg #[.bool true, .slice A n c]) (by simp [results, Tryz.results86, go_sem]) rfl ⟨rfl, (Up.refl w).alloc _⟩
end Go.Proofs.YtldifgfpecicnaaGreatDoor
