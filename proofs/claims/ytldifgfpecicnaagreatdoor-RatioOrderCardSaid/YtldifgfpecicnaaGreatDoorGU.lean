import Derived.Test.YtldifgfpecicnaaGreatDoorGT
import Derived.Test.YtldifgfpecicnaaGreatDoorShelf
import Derived.Lib.ItoaMem
import Derived.Laws.Slices
import Derived.Shelf.Strings.BuilderK
import Derived.Test.YtldifgfpecicnaaGreatDoorGB
import Derived.RangeFuncOwn
import Derived.RangeFuncWrites
import Derived.Lib.BufferKept
import Derived.Test.YtldifgfpecicnaaGreatDoorGS
import Derived.Test.YtldifgfpecicnaaGreatDoorGE
import Derived.Test.YtldifgfpecicnaaGreatDoorGD
import Derived.Test.YtldifgfpecicnaaGreatDoorH1
/- strconv.FormatUint at base 10, of numbers below 10^9. -/
namespace Go.Proofs.YtldifgfpecicnaaGreatDoor
open Go.RowKit Go.Sort

/-- The table of powers of ten is laid. -/
def Pow (w : World) : Prop := Lib.TabIs Tryz.prog w "internal/strconv.uint64pow10" .u64 Lib.pow10Tab
theorem Pow.up {w w' : World} (h : Pow w) (hu : Up w w') : Pow w' := by
  unfold Pow Lib.TabIs World.var? at *
  cases hg : Tryz.prog.globalNamed "internal/strconv.uint64pow10" with
  | none => simp [hg] at h
  | some g =>
    simp only [hg, Option.bind_some] at h ⊢
    have hlt : g < w.heap.size := by
      rcases Nat.lt_or_ge g w.heap.size with h' | h'
      · exact h'
      · rw [Array.getElem?_eq_none h'] at h; simp at h
    rw [hu.block g hlt]
    exact h
theorem up_grow {a w : World} (h : Up a w) (os : Array Obj) : Up a (grow w os) :=
  ⟨h.os, h.tape, h.output, by rw [size_grow]; have := h.size; omega, fun k hk => by
    rw [← h.block k hk]
    show (w.heap ++ os)[k]? = w.heap[k]?
    exact Array.getElem?_append_left (by have := h.size; omega)⟩
theorem holds0 (w : World) (T : TypeId) (nd : Nat) (hs : nd ≤ 24) : Holds (fun (b : UInt8) => Value.int .u8 (b.toNat : Int)) (w.alloc (.cells Lib.zeros24 T)) w.heap.size 0 (Array.replicate nd (0 : UInt8)) := fun j hj => by
  have hj' : j < nd := by simpa using hj
  refine ⟨?_, World.frozen?_alloc_new _ _ _ _⟩
  rw [World.cell?_alloc_new, Lib.zeros24_at _ (by omega), getElem!_pos _ j hj]
  simp
theorem up_row (w : World) (o : Obj) (dk : Array UInt8) (k : Nat) : Up w ((putRow (fun (b : UInt8) => Value.int .u8 (b.toNat : Int)) (w.alloc o) w.heap.size 0 dk).drewN k) := by
  rw [alloc_eq_grow]
  obtain ⟨os', _, e⟩ := putRow_grow_new (fun (b : UInt8) => Value.int .u8 (b.toNat : Int)) w #[o] w.heap.size 0 dk (Nat.le_refl _)
  rw [e]
  exact (up_grow (Up.refl w) os').drewN k
theorem ifmt_small (u : Nat) (w : World) (hu : u < 100) : Calls Tryz.prog 125 #[.int .u64 u, .int .i64 10] w fun e w' => e = .returned (.string (ubs u)) ∧ Up w w' := by
  have hc : ∀ w, Calls Tryz.prog 140 #[.int .i64 u] w fun e w' => e = .returned (.string (ubs u)) ∧ w' = w := fun w => by
    rw [← ubs_dec]; exact Tryz.internal_strconv_small u hu w
  go_enter Tryz.func125, Tryz.ntmps125
  go_wp2_with (go_at_call 140; refine (hc _).mono ?_; rintro e w' ⟨rfl, rfl⟩)
  go_ret
  exact ⟨rfl, Up.refl _⟩
set_option maxRecDepth 100000 in
set_option maxHeartbeats 2000000 in
theorem ifmt_big (u : Nat) (w : World) (hu1 : 100 ≤ u) (hu : u < 1000000000) (htab : Pow w) : Calls Tryz.prog 125 #[.int .u64 u, .int .i64 10] w fun e w' => e = .returned (.string (ubs u)) ∧ Up w w' := by
  have hnd := (ndig_9 hu)
  obtain ⟨D, hD⟩ : ∃ D, D = Lib.nDigits u := ⟨_, rfl⟩
  have hD9 : D ≤ 24 := by omega
  have HDp := hide (show u < 10 ^ D by rw [hD]; exact Lib.lt_pow_nDigits u)
  have hH0 := holds0 w 146 D hD9
  have hfmt := Tryz.internal_strconv_formatBase10 w.heap.size 0 24 u (Array.replicate D 0) (w.alloc (.cells Lib.zeros24 146)) hH0 (by rw [Array.size_replicate]; exact HDp.out) (by omega) (by rw [Array.size_replicate]; omega)
  rw [Array.size_replicate] at hfmt
  have HH0 := hide hH0
  have hnum := fun w (h : Pow w) => Tryz.internal_strconv_numDigits u (by omega) (by omega) w h
  rw [← hD] at hnum
  have hpow := htab.up ((Up.refl w).alloc (.cells Lib.zeros24 146))
  have hsl : ∀ W, (Instr.sliceAt 146 (.pointer (some ⟨w.heap.size, 0, none⟩)) none (some (.int .i64 (D : Int))) none).run Tryz.prog W = .ok (.slice (some ⟨w.heap.size, 0, none⟩) D 24) W := fun W => by
    have hal : Tryz.prog.arrayLen 146 = 24 := by simp [Program.arrayLen, Tryz.underlying146]
    rw [run_sliceAt_array_h W 146 ⟨w.heap.size, 0, none⟩ (by simp [Program.arrayLen, Program.elem, Tryz.underlying146]) .i64 (D : Int) (by omega) (by rw [hal]; omega)]
    go_simp
  have HD := hide hD
  clear hH0 hD hnd htab
  go_enter Tryz.func125, Tryz.ntmps125
  go_wp2_with (first | (go_at_call 141; refine (hnum _ hpow).mono ?_; rintro e w' ⟨rfl, rfl⟩))
  refine hfmt.mono ?_
  rintro e w' ⟨rfl, k, v', dk, rfl, hF⟩
  have hup := up_row w (.cells Lib.zeros24 146) dk k
  obtain ⟨W3, hW3⟩ : ∃ W3, W3 = (putRow (fun (b : UInt8) => Value.int .u8 (b.toNat : Int)) (w.alloc (.cells Lib.zeros24 146)) w.heap.size 0 dk).drewN k := ⟨_, rfl⟩
  rw [← hW3] at hup ⊢
  have hcv : (convert 104 9 (.slice (some ⟨w.heap.size, 0, none⟩) D 24)).run Tryz.prog W3 = .ok (.string (ubs u)) W3 := by
    have hD := HD.out
    have h := run_convert_bytes_back (P := Tryz.prog) W3 104 9 5 ⟨w.heap.size, 0, none⟩ 24 (Lib.decDigits u) Tryz.underlying104 Tryz.underlying5 Tryz.underlying9 (fun j hj => by
      have hF' : Lib.FmtInv (Lib.nDigits u) u 0 v' dk := by rw [← hD]; exact hF
      have hj' : j < dk.size := by rw [hF.size, hD]; rw [Lib.decDigits_length] at hj; exact hj
      have hg := cell?_putRow (fun (b : UInt8) => Value.int .u8 (b.toNat : Int)) _ w.heap.size 0 _ dk HH0.out (by rw [hF.size, Array.size_replicate]) j hj'
      rw [Nat.zero_add] at hg
      rw [Lib.row_is_numeral hF' j hj, Lib.add_plain, Nat.zero_add, hW3, World.cell?_drewN]
      exact hg)
    rw [Lib.decDigits_length, ← hD, ubs_dec] at h
    exact h
  clear hW3 hF HH0
  go_wp2
  go_ret
  exact ⟨rfl, hup⟩
theorem ifmt_any (u : Nat) (w : World) (hu : u < 1000000000) (htab : Pow w) : Calls Tryz.prog 125 #[.int .u64 u, .int .i64 10] w fun e w' => e = .returned (.string (ubs u)) ∧ Up w w' := by
  by_cases h : u < 100
  · exact ifmt_small u w h
  · exact ifmt_big u w (by omega) hu htab
/-- strconv.FormatUint. -/
theorem fmt_any (u : Nat) (w : World) (hu : u < 1000000000) (htab : Pow w) : Calls Tryz.prog 95 #[.int .u64 u, .int .i64 10] w fun e w' => e = .returned (.string (ubs u)) ∧ Up w w' := by
  have hc := fun w (h : Pow w) => ifmt_any u w hu h
  have hw : Pow w := htab
  have HU := hide hu
  clear hu
  go_enter Tryz.func95, Tryz.ntmps95
  go_wp2_with (go_at_call 125; refine (hc _ hw).mono ?_; rintro e w' ⟨rfl, hup⟩)
  go_ret
  exact ⟨rfl, hup⟩
end Go.Proofs.YtldifgfpecicnaaGreatDoor
/- The builder's writes: out of the laying of strings.Repeat. -/
namespace Go.Proofs.YtldifgfpecicnaaGreatDoor
open Go.RowKit

def ren8 : Go.Shelf.Ren := ⟨fun | 167 => 93 | 105 => 68 | 212 => 101 | 99 => 102 | 165 => 103 | 166 => 96 | 170 => 104 | 169 => 97 | 263 => 127 | 264 => 128 | 206 => 129 | 240 => 123 | 241 => 130 | 276 => 139 | 277 => 144 | n => n, fun | 9 => 9 | 3 => 3 | 4 => 4 | 20 => 20 | 0 => 0 | 46 => 120 | 109 => 121 | 5 => 5 | 72 => 106 | 76 => 114 | 51 => 91 | 146 => 135 | 53 => 98 | 148 => 137 | 70 => 103 | 37 => 104 | 75 => 108 | 127 => 134 | 164 => 143 | 80 => 116 | n => n, fun | n => n⟩
theorem lay167 : Go.Proofs.Lays.n167 Tryz.prog ren8 := {
  mixed := by kernel_rfl
  f167 := Tryz.func93.trans (congrArg some (by kernel_rfl))
  f240 := Tryz.func123.trans (congrArg some (by kernel_rfl))
  f276 := Tryz.func139.trans (congrArg some (by kernel_rfl))
  t0 := Tryz.underlying0
  a0 := Tryz.isAgg0
  z0 := Tryz.sizeOf0
  v0 := Tryz.zeroValue0
  t4 := Tryz.underlying4
  a4 := Tryz.isAgg4
  z4 := Tryz.sizeOf4
  v4 := Tryz.zeroValue4
  t5 := Tryz.underlying5
  a5 := Tryz.isAgg5
  z5 := Tryz.sizeOf5
  v5 := Tryz.zeroValue5
  t9 := Tryz.underlying9
  a9 := Tryz.isAgg9
  z9 := Tryz.sizeOf9
  v9 := Tryz.zeroValue9
  t20 := Tryz.underlying20
  a20 := Tryz.isAgg20
  z20 := Tryz.sizeOf20
  v20 := Tryz.zeroValue20
  t37 := Tryz.underlying104
  a37 := Tryz.isAgg104
  z37 := Tryz.sizeOf104
  v37 := Tryz.zeroValue104
  t70 := Tryz.underlying103
  a70 := Tryz.isAgg103
  z70 := Tryz.sizeOf103
  v70 := Tryz.zeroValue103
  t72 := Tryz.underlying106
  a72 := Tryz.isAgg106
  z72 := Tryz.sizeOf106
  v72 := Tryz.zeroValue106
  t75 := Tryz.underlying108
  a75 := Tryz.isAgg108
  z75 := Tryz.sizeOf108
  v75 := Tryz.zeroValue108
  t164 := Tryz.underlying143
  a164 := Tryz.isAgg143
  z164 := Tryz.sizeOf143
  v164 := Tryz.zeroValue143 }
theorem lay166 : Go.Proofs.Lays.n166 Tryz.prog ren8 := {
  mixed := by kernel_rfl
  f166 := Tryz.func96.trans (congrArg some (by kernel_rfl))
  f240 := Tryz.func123.trans (congrArg some (by kernel_rfl))
  f276 := Tryz.func139.trans (congrArg some (by kernel_rfl))
  t0 := Tryz.underlying0
  a0 := Tryz.isAgg0
  z0 := Tryz.sizeOf0
  v0 := Tryz.zeroValue0
  t3 := Tryz.underlying3
  a3 := Tryz.isAgg3
  z3 := Tryz.sizeOf3
  v3 := Tryz.zeroValue3
  t4 := Tryz.underlying4
  a4 := Tryz.isAgg4
  z4 := Tryz.sizeOf4
  v4 := Tryz.zeroValue4
  t9 := Tryz.underlying9
  a9 := Tryz.isAgg9
  z9 := Tryz.sizeOf9
  v9 := Tryz.zeroValue9
  t20 := Tryz.underlying20
  a20 := Tryz.isAgg20
  z20 := Tryz.sizeOf20
  v20 := Tryz.zeroValue20
  t37 := Tryz.underlying104
  a37 := Tryz.isAgg104
  z37 := Tryz.sizeOf104
  v37 := Tryz.zeroValue104
  t70 := Tryz.underlying103
  a70 := Tryz.isAgg103
  z70 := Tryz.sizeOf103
  v70 := Tryz.zeroValue103
  t72 := Tryz.underlying106
  a72 := Tryz.isAgg106
  z72 := Tryz.sizeOf106
  v72 := Tryz.zeroValue106
  t75 := Tryz.underlying108
  a75 := Tryz.isAgg108
  z75 := Tryz.sizeOf108
  v75 := Tryz.zeroValue108
  t164 := Tryz.underlying143
  a164 := Tryz.isAgg143
  z164 := Tryz.sizeOf143
  v164 := Tryz.zeroValue143 }
theorem ext8 : Builder.Extra Tryz.prog ren8 := {
  sizeBuilder := by kernel_rfl
  liesBuilder := by kernel_rfl
  t5 := Tryz.underlying5
  a5 := Tryz.isAgg5
  z5 := Tryz.sizeOf5
  v5 := Tryz.zeroValue5
  infoByte := by kernel_rfl
  cellsByte := by kernel_rfl
  sizeByte := by kernel_rfl
  neB5 := by decide }
/-- The builder in block b holds some bytes. -/
def Bld (b : Nat) (l : List Nat) (w : World) : Prop := Lib.IsBuilderF 106 5 b b (l.map fun (x : Nat) => Value.int .u8 (x : Int)) w
theorem wbyte_any (b : Nat) (l : List Nat) (c : Nat) (w : World) (h : Bld b l w) (hl : l.length ≤ 1000000) (hb : b ≤ w.heap.size) :
    Calls Tryz.prog 93 #[.pointer (some ⟨b, 0, none⟩), .int .u8 c] w fun e w' => e = .returned .nilIface ∧ Bld b (l ++ [c]) w' ∧ Below b w w' ∧ Lib.OthersKept 5 (some b) w w' := by
  refine (Any.Builder_WriteByte_k lay167 ext8 b b _ c w h (by simp; omega) hb).mono ?_
  rintro e w' ⟨rfl, h1, h2, h3⟩
  exact ⟨rfl, Or.inr (by rw [List.map_append]; exact h1), h2, h3⟩
theorem strCells_map (s : ByteArray) : Lib.strCells s = (by_ s).map fun (x : Nat) => Value.int .u8 (x : Int) := by
  unfold Lib.strCells by_
  rw [List.map_map]
  rfl
theorem wstr_any (b : Nat) (l : List Nat) (s : ByteArray) (w : World) (h : Bld b l w) (hl : l.length ≤ 1000000) (hs : s.size ≤ 1000000) (hb : b ≤ w.heap.size) :
    Calls Tryz.prog 96 #[.pointer (some ⟨b, 0, none⟩), .string s] w fun e w' => e = .returned (.tuple #[.int .i64 s.size, .nilIface]) ∧ Bld b (l ++ by_ s) w' ∧ Below b w w' ∧ Lib.OthersKept 5 (some b) w w' := by
  refine (Any.Builder_WriteString_k lay166 ext8 b b _ s w h (by simp; omega) hb).mono ?_
  rintro e w' ⟨rfl, h1, h2, h3⟩
  rw [strCells_map, ← List.map_append] at h1
  exact ⟨rfl, Or.inr h1, h2, h3⟩
theorem bstr_any (b : Nat) (l : List Nat) (w : World) (h : Bld b l w) (hx : ∀ x ∈ l, x < 256) (hb : b ≤ w.heap.size) :
    Calls Tryz.prog 97 #[.pointer (some ⟨b, 0, none⟩)] w fun e w' => e = .returned (.string (bs l)) ∧ Below b w w' ∧ Lib.OthersKept 5 (some b) w w' := by
  refine (Any.Builder_String_any_k Tryz.lays169 Tryz.Builder_Extra_169 b b (l.map UInt8.ofNat) w ?_ hb).mono ?_
  · have : Lib.byteCells (l.map UInt8.ofNat) = l.map fun (x : Nat) => Value.int .u8 (x : Int) := by
      unfold Lib.byteCells
      rw [List.map_map]
      refine List.map_congr_left fun x hx' => ?_
      show Value.int .u8 ((UInt8.ofNat x).toNat : Int) = _
      rw [UInt8.toNat_ofNat_of_lt' (hx x hx')]
    rw [this]; exact h
  · rintro e w' ⟨rfl, _, h2, h3⟩
    exact ⟨rfl, h2, h3⟩
theorem rep_zeros (c : Nat) : Lib.repeatL [48] c = (List.replicate c 48).map UInt8.ofNat := by
  induction c with
  | zero => rfl
  | succ c ih => show 48 :: Lib.repeatL [48] c = _; rw [ih, List.replicate_succ]; rfl
/-- strings.Repeat of a zero. -/
theorem rep_any (c : Nat) (w : World) (hc : c ≤ 1000000) :
    Calls Tryz.prog 68 #[.string ⟨#[48]⟩, .int .i64 c] w fun e w' => e = .returned (.string (bs (List.replicate c 48))) ∧ Up w w' := by
  refine (Tryz.strings_Repeat ⟨#[48]⟩ c w (by omega) (by show 1 * c ≤ _; omega)).mono ?_
  rintro e w' ⟨rfl, h⟩
  exact ⟨by show Ending.returned (.string ⟨(Lib.repeatL [48] c).toArray⟩) = _; rw [rep_zeros]; rfl, h⟩
theorem Bld.new (w : World) : Bld w.heap.size [] (w.alloc (.cells #[.pointer none, .slice none 0 0] 106)) :=
  Or.inl (Lib.BuilderAtF.of ⟨Nat.le_refl _, .slice none 0 0, heap_alloc_new w _, World.ownsRow_nil _ _ _ _, by intro h; cases h⟩)
theorem Bld.kept {b : Nat} {l : List Nat} {W W' : World} {row : Option Nat} (h : Bld b l W) (hg : W.grownBy W' row) (hr : ∀ r, row = some r → ∃ o : Obj, W.heap[r]? = some o ∧ o.isCells = false) : Bld b l W' := by
  have key : ∀ p bs, Lib.BuilderAtF 106 5 b b p bs W → Lib.BuilderAtF 106 5 b b p bs W' := by
    rintro p bs ⟨h1, v, h2, h3, h4⟩
    refine ⟨h1, v, (grownBy_keeps_cells hg hr h2 rfl).trans h2, h3.kept hg ?_, h4⟩
    cases hv : v.ownBlock with
    | none => exact Or.inl rfl
    | some k =>
      right
      intro e
      obtain ⟨o, ho, hc⟩ := hr k e.symm
      rcases h3.2 with ⟨rfl, _⟩ | ⟨g, cap, cur, fz, rfl, _, hgg, _⟩
      · cases hv
      · simp [Value.ownBlock] at hv
        subst hv
        rw [hgg] at ho; cases ho; cases hc
  exact h.imp (key _ _) (key _ _)
theorem Bld.lt {b : Nat} {l : List Nat} {W : World} (h : Bld b l W) : b < W.heap.size := h.elim (fun h => h.lt) (fun h => h.lt)
theorem Bld.up {b : Nat} {l : List Nat} {W W' : World} (h : Bld b l W) (hu : Up W W') : Bld b l W' := h.kept (up_grown hu) (fun r e => by cases e)
/-- What a write of the builder in block b keeps. -/
def Stp (b : Nat) (W W' : World) : Prop := Below b W W' ∧ Lib.OthersKept 5 (some b) W W'
theorem Stp.refl (b : Nat) (W : World) : Stp b W W := ⟨Below.refl _ _, Lib.OthersKept.refl _ _ _⟩
theorem Stp.trans {b : Nat} {A C D : World} (h : Stp b A C) (k : Stp b C D) : Stp b A D := ⟨h.1.trans k.1, h.2.trans k.2⟩
theorem Stp.of_up {b : Nat} {W W' : World} (h : Up W W') (hb : b ≤ W.heap.size) : Stp b W W' := ⟨Below.mono h hb, (Lib.OthersKept.refl _ _ W).below h⟩
theorem Stp.up {b : Nat} {w W W' : World} (h : Stp b W W') (hu : Up w W) (hb : w.heap.size ≤ b) : Up w W' := Below.trans hu (Below.mono h.1 hb)
theorem Stp.bk {b g t : Nat} {cs : Array Value} {W W' : World} (h : Stp b W W') (hk : Bk W g t cs) (hg : g ≠ b) (ht : t ≠ 5) : Bk W' g t cs :=
  h.2 g _ hk (fun e => hg (Option.some.inj e)) (fun c fz e => by injection e with _ e2 _; exact ht e2)
theorem Stp.from {b B : Nat} {W W' : World} (h : Stp b W W') (hB : b < B) : KeepsFrom B W W' :=
  ⟨h.1.size, fun k o hk ho hc => h.2 k o ho (fun e => by have := Option.some.inj e; omega) (fun c fz e => by rw [e] at hc; cases hc)⟩
end Go.Proofs.YtldifgfpecicnaaGreatDoor
/- The program's Format. -/
namespace Go.Proofs.YtldifgfpecicnaaGreatDoor
open Go.RowKit Go.Shelf
attribute [local go_sem] Oper.semAt_some

/-- The text of the k highest limbs. -/
def tops (L : List Nat) (n k : Nat) : List Nat := if k = 0 then [] else txt (val (L.drop (n - k)))
theorem drop_ne {N n k : Nat} (hn : n = (lim N).length) (h1 : 1 ≤ k) (hk : k ≤ n) : val ((lim N).drop (n - k)) ≠ 0 := by
  induction k with
  | zero => omega
  | succ k ih =>
    rw [drop_back hn (by omega)]
    rcases Nat.eq_zero_or_pos k with h | h
    · subst h
      have := (dgt_top hn (by omega)).2
      rw [Nat.sub_zero]; omega
    · have := ih h (by omega); omega
theorem tops_step {N n k x : Nat} (hn : n = (lim N).length) (hk : k < n) (hx : x = (lim N).getD (n - 1 - k) 0) (hx9 : x < 1000000000) :
    tops (lim N) n (k + 1) = tops (lim N) n k ++ (if n - 1 - k < n - 1 then List.replicate (9 - Lib.nDigits x) 48 ++ dg (Lib.nDigits x) x else dg (Lib.nDigits x) x) := by
  unfold tops
  rw [if_neg (by omega), drop_back hn hk, ← hx]
  rcases Nat.eq_zero_or_pos k with h | h
  · subst h
    rw [if_pos rfl, if_neg (by omega), Nat.sub_zero, List.drop_eq_nil_of_le (by omega)]
    have h0 := (dgt_top hn (by omega)).2
    rw [Nat.sub_zero] at hx
    rw [← hx] at h0
    rw [dgt_ndig h0]
    simp [val, txt]
  · rw [if_neg (by omega), if_pos (by omega), txt_block _ _ (drop_ne hn h (by omega)) hx9, dg_pad (Lib.nDigits x) 9 x (ndig_9 hx9).2 (Lib.lt_pow_nDigits x)]
theorem tops_all {N n : Nat} (hn : n = (lim N).length) (h : 0 < n) : tops (lim N) n n = txt N := by
  unfold tops
  rw [if_neg (by omega), Nat.sub_self, List.drop_zero, val_lim]
theorem by_ubs (x : Nat) : by_ (ubs x) = dg (Lib.nDigits x) x := by_bs _ fun y hy => by have := dg_mem hy; omega
theorem by_zeros (c : Nat) : by_ (bs (List.replicate c 48)) = List.replicate c 48 := by_bs _ fun y hy => by have := List.eq_of_mem_replicate hy; omega

set_option maxRecDepth 100000 in
set_option maxHeartbeats 8000000 in
theorem format_pos (B : Nat) (v : Value) (z : Int) (w : World) (hv : IsInt B w v z) (hz : z.natAbs < top300) (h0 : 0 < z) (hpow : Pow w) : Calls Tryz.prog 66 #[v] w fun e w' => e = .returned (.tuple #[.string (bs (itxt z)), .int .i64 0]) ∧ Up w w' := by
  have hv0 := hv
  obtain ⟨s, A, n, c, rfl, Hs, Hn, hl, hc, _⟩ := hv
  obtain rfl : s = false := by rw [Hs.out]; simp; omega
  obtain ⟨N, hN⟩ : ∃ N, N = z.natAbs := ⟨_, rfl⟩
  have HT : Hid (itxt z = ([] : List Nat) ++ txt N) := by
    show itxt z = _
    unfold itxt
    rw [if_neg (by omega), if_neg (by omega), hN]; rfl
  have hN0 : N ≠ 0 := by omega
  rw [← hN] at Hn hl
  have hn34 : n ≤ 34 := by rw [Hn.out]; exact len_of_top (by rw [hN]; exact hz)
  have hn0 : 0 < n := by rw [Hn.out]; exact Nat.pos_of_ne_zero fun h => hN0 (lim_len_zero.1 h)
  have HZ := hide hz
  obtain ⟨w0, hw0⟩ : ∃ w0, w0 = (w.alloc (.cells #[.bool false, .slice A n c] 24)) := ⟨_, rfl⟩
  have hb1 : Bk w0 (w.heap.size) 24 #[.bool false, .slice A n c] := by
    have := Bk.new w 24 #[.bool false, .slice A n c]
    rw [hw0]; simpa using this
  have hup0 : Up w w0 := by rw [hw0]; exact (Up.refl w).alloc _
  have hsz0 : w0.heap.size = w.heap.size + 1 := by rw [hw0]; simp
  have Hw0 := hide hw0
  have HN := hide hN
  clear hw0 hN hz h0 hN0
  have e1a := hb1.cell (i := 0) rfl
  have e1b := hb1.cell (i := 1) rfl
  refine (callsIn_wide (n := 5)).1 ?_
  refine callsIn_of_wp_marks Tryz.func66 rfl trivial ?_ rfl
  simp only [Tryz.ntmps66, List.size_toArray, List.length_cons, List.length_nil, Nat.reduceAdd, Nat.reduceSub, Array.replicate_succ, Array.replicate_zero, List.push_toArray, List.append_toArray, List.nil_append, List.cons_append]
  gi_wp2_with fail
  rw [← Hw0.out]
  refine ⟨trivial, ?_⟩
  refine ((callsIn_wide (n := _)).2 (validI_any _ _ z w0 (hv0.up hup0) HZ.out)).mono ?_
  rintro e w1 ⟨rfl, hup1⟩
  have hb2 := hb1.up hup1
  have e2a := hb2.cell (i := 0) rfl
  have e2b := hb2.cell (i := 1) rfl
  have hq0 : ((n : Int) == 0) = false := by rw [beq_eq_false_iff_ne]; omega
  obtain ⟨w2, hw2⟩ : ∃ w2, w2 = w1.alloc (.cells #[.pointer none, .slice none 0 0] 106) := ⟨_, rfl⟩
  obtain ⟨b, hb⟩ : ∃ b, b = w1.heap.size := ⟨_, rfl⟩
  have hbld : Bld b [] w2 := by rw [hw2, hb]; exact Bld.new w1
  have hup2 : Up w w2 := by rw [hw2]; exact (hup0.trans hup1).alloc _
  have hwb : w.heap.size < b := by rw [hb]; have := hup1.size; omega
  have hb3 : Bk w2 w.heap.size 24 #[.bool false, .slice A n c] := by rw [hw2]; exact hb2.alloc _
  have e3a : (w1.alloc (.cells #[.pointer none, .slice none 0 0] 106)).cell? ⟨w.heap.size, 0, none⟩ = some (.bool false) := by rw [← hw2]; exact hb3.cell (i := 0) rfl
  have e3b : (w1.alloc (.cells #[.pointer none, .slice none 0 0] 106)).cell? ⟨w.heap.size, 1, none⟩ = some (.slice A n c) := by rw [← hw2]; exact hb3.cell (i := 1) rfl
  have Hw2 := hide hw2
  have Hb := hide hb
  clear hw2 hb
  gi_wp2_with fail
  rw [← Hw2.out, ← Hb.out]
  refine ⟨trivial, ?_⟩
  refine (back_in Fence.wide (5 - 1) trivial rfl _ _ _ _).mono ?_
  rintro e w' ⟨rfl, rfl⟩
  gi_wp2
  have bS : Bk (w2.alloc (.cells #[.slice A n c] 22)) w2.heap.size 22 #[.slice A n c] := Bk.new w2 _ _
  have hB0 : Up w (w2.alloc (.cells #[.slice A n c] 22)) := hup2.alloc _
  have hbl2 : b < w2.heap.size := hbld.lt
  have hA : 0 < n → ∀ ad, A = some ad → ad.block < b := fun h ad e => by
    obtain ⟨ad', e', hb, _⟩ := hl.at_ (k := 0) (by rw [← Hn.out]; exact h)
    rw [e] at e'
    cases e'
    omega
  refine wpIn_rangeFunc_ownG rfl (by omega) (gf := 124) (lb := #[.pointer (some ⟨w2.heap.size, 0, none⟩)]) rfl trivial (enters_of Tryz.func124 (by kernel_rfl) rfl)
    (back_stops Fence.wide (5 - 1) trivial rfl (by omega) w2.heap.size b 1000000000 A c n (lim N) (dig_getD (dig_lim N)) (by omega) Hn _ (by simp) (bS.cell (i := 0) rfl) (hl.up hB0) hA)
    (fun h k => ⟨h.1.trans k.1, fun v hv => k.2 v (h.2 v hv)⟩)
    (fun W l o o' hle h h1 h2 => ⟨belowK_b (w := w2.alloc (.cells #[.slice A n c] 22)) (by simp; omega) W l o o' hle h h1 h2, fun v hv => (World.cell?_of_block (w := W) ((grownBy_putObj' W l o').block _ (World.block_lt_of_cell? W _ hv) (fun e => by cases e; simp at hle; omega))).trans hv⟩)
    (Below.refl _ _) (fun _ => rfl)
    (fun pre W => (∃ l : List Nat, Bld b l W ∧ Bk W w.heap.size 24 #[.bool false, .slice A n c] ∧ Bk W w2.heap.size 22 #[.slice A n c] ∧ l.length ≤ 1 + 9 * pre.length ∧ (pre.map (fun y => y.1) = raws (lim N) n pre.length → pre.length ≤ n → l = ([] : List Nat) ++ tops (lim N) n pre.length)) ∧ Below w.heap.size w W)
    (fun _ _ _ => False)
    (OwnFrom.and (Own.from (fun s X Y row hs hg hr => by obtain ⟨l, h1, h2, h3, h4, h5⟩ := hs; exact ⟨l, h1.kept hg hr, (grownBy_keeps_cells hg hr h2 rfl).trans h2, (grownBy_keeps_cells hg hr h3 rfl).trans h3, h4, h5⟩) _) (ownFrom_below (Nat.le_refl _) (by simp; omega)))
    (fun _ _ _ _ _ hs _ _ => hs)
    ⟨⟨[], hbld.up ((Up.refl w2).alloc _), hb3.alloc _, bS, Nat.zero_le _, fun _ _ => rfl⟩, hB0⟩
    (fun y => { tmps := #[.agg #[.bool false, .slice A n c], .pointer (some ⟨w.heap.size, 0, none⟩), .string ⟨#[]⟩, .int .i64 0, .pointer (some ⟨b, 0, none⟩), .int .i64 (y.1.1 : Nat), .int .u32 (y.1.2 : Nat), undef, .agg #[.bool false, .slice A n c], .bool true, .bool false, .pointer (some ⟨w.heap.size, 1, none⟩), .slice A n c, .int .i64 (n : Nat), .bool false, .pointer (some ⟨w.heap.size, 0, none⟩), .bool false, undef, .pointer (some ⟨w.heap.size, 1, none⟩), .slice A n c, .func (.func 124) #[] #[.pointer (some ⟨w2.heap.size, 0, none⟩)], .int .i64 (y.1.1 : Nat), .int .u32 (y.1.2 : Nat), undef, undef, undef, undef, undef, undef, undef, undef, undef, undef, undef, undef, undef, undef, undef, undef, undef], defers := [] }) ?assign ?body ?done ?stop
  case assign =>
    intro l y W K hK
    gi_wp2
    exact hK
  case body =>
    rintro l pre y W ⟨⟨t, ht, hk1, hk2, hlt, hm⟩, hB⟩ hlen
    have HM := hide hm
    clear hm
    obtain ⟨x, hxe⟩ : ∃ x, x = y.1.2 := ⟨_, rfl⟩
    obtain ⟨i, hie⟩ : ∃ i, i = y.1.1 := ⟨_, rfl⟩
    have hx9 : x < 1000000000 := by rw [hxe]; exact y.2.2
    have hin : i < n := by rw [hie]; exact y.2.1
    rw [← hxe, ← hie]
    have hbW := Nat.le_of_lt ht.lt
    have hF := fmt_any x W hx9 (hpow.up hB)
    obtain ⟨U, hU⟩ : ∃ U, U = ubs x := ⟨_, rfl⟩
    rw [← hU] at hF
    obtain ⟨D, hD⟩ : ∃ D, D = U.size := ⟨_, rfl⟩
    have hD9 : 1 ≤ D ∧ D ≤ 9 := by rw [hD, hU, ubs_size]; exact ndig_9 hx9
    obtain ⟨D1, D9⟩ := hD9
    have HX := hide hxe
    have HI := hide hie
    have HU := hide hU
    have HD := hide hD
    clear hxe hie hU
    gi_wp2_with fail
    refine ⟨trivial, ?_⟩
    refine (CallsIn.inRound l ((callsIn_wide (n := _)).2 hF)).mono ?_
    rintro e W1 ⟨rfl, hu1⟩
    have s1 := Stp.of_up hu1 hbW
    have kA := s1.bk hk1 (by omega) (by decide)
    have cA := kA.cell (i := 1) rfl
    have hfin : ∀ (t' Z : List Nat) (W' : World), Stp b W W' → Bld b t' W' → t' = t ++ Z → Z.length ≤ 9 → Hid (Z = if i < n - 1 then List.replicate (9 - Lib.nDigits x) 48 ++ dg (Lib.nDigits x) x else dg (Lib.nDigits x) x) →
        KeepsFrom (w2.alloc (.cells #[.slice A n c] 22)).heap.size W W' ∧ KeepBox b w2.heap.size W W' ∧ ((∃ l : List Nat, Bld b l W' ∧ Bk W' w.heap.size 24 #[.bool false, .slice A n c] ∧ Bk W' w2.heap.size 22 #[.slice A n c] ∧ l.length ≤ 1 + 9 * (pre ++ [y]).length ∧ ((pre ++ [y]).map (fun y => y.1) = raws (lim N) n (pre ++ [y]).length → (pre ++ [y]).length ≤ n → l = ([] : List Nat) ++ tops (lim N) n (pre ++ [y]).length)) ∧ Below w.heap.size w W') := by
      intro t' Z W' hs hb' ht' hZ HZ'
      have kS := hs.bk hk2 (by omega) (by decide)
      have kA := hs.bk hk1 (by omega) (by decide)
      have hpl : (pre ++ [y]).length = pre.length + 1 := by simp
      refine ⟨hs.from (by simp; omega), ⟨hs.1, fun v hv => ?_⟩, ⟨t', hb', kA, kS, ?_, fun h1 h2 => ?_⟩, hs.up hB (by omega)⟩
      · rw [hk2.cell (i := 0) rfl] at hv
        rw [kS.cell (i := 0) rfl]; exact hv
      · rw [ht', List.length_append, hpl]; omega
      · obtain ⟨_, h4, h5⟩ := raws_snoc h1
        rw [ht', hpl, HM.out h4 (by omega), HZ'.out]
        have hi : i = n - 1 - pre.length := by rw [HI.out, h5]
        have hx : x = (lim N).getD (n - 1 - pre.length) 0 := by rw [HX.out, h5]
        rw [tops_step Hn.out hlen hx hx9, hi, List.append_assoc]
    have HFIN := hide hfin
    clear hfin
    have hbU : by_ U = dg (Lib.nDigits x) x := by rw [HU.out, by_ubs]
    have hUn : Lib.nDigits x = U.size := by rw [HU.out, ubs_size]
    have HBU := hide hbU
    have HUN := hide hUn
    clear hbU hUn
    have ht1 := ht.up hu1
    have htl : t.length ≤ 1000 := by omega
    by_cases hlast : i < n - 1
    · have hsub : IntKind.i64.wrap ((n : Int) - 1) = ((n - 1 : Nat) : Int) := by rw [IntKind.wrap_i64]; omega
      gi_wp2_with fail
      obtain ⟨cz, hcz⟩ : ∃ cz : Nat, cz = 9 - U.size := ⟨_, rfl⟩
      have hUD := HD.out
      have hcz9 : cz ≤ 9 := by omega
      have hczU : cz + U.size = 9 := by omega
      rw [show (9 : Int) - (U.size : Int) = (cz : Int) by omega]
      refine ⟨trivial, ?_⟩
      refine (CallsIn.inRound l ((callsIn_wide (n := _)).2 (rep_any cz W1 (by omega)))).mono ?_
      rintro e W2 ⟨rfl, hu2⟩
      obtain ⟨Z, hZ⟩ : ∃ Z, Z = bs (List.replicate cz 48) := ⟨_, rfl⟩
      rw [← hZ]
      have hZs : Z.size = cz := by rw [hZ, bs_size, List.length_replicate]
      have hZb : by_ Z = List.replicate cz 48 := by rw [hZ, by_zeros]
      have ht2 := ht1.up hu2
      have s2 := s1.trans (Stp.of_up hu2 (Nat.le_of_lt ht1.lt))
      have hW1 := wstr_any b t Z W2 ht2 (by omega) (by omega) (Nat.le_of_lt ht2.lt)
      have HZb := hide hZb
      have Hcz := hide hcz
      clear hZ hZb hcz
      gi_wp2_with fail
      refine ⟨trivial, ?_⟩
      refine (CallsIn.inRound l ((callsIn_wide (n := _)).2 hW1)).mono ?_
      rintro e W3 ⟨rfl, ht3, hb3', ho3⟩
      have s3 : Stp b W W3 := s2.trans ⟨hb3', ho3⟩
      have hZl : (t ++ by_ Z).length ≤ 2000 := by rw [List.length_append, by_len]; omega
      have hW2 := wstr_any b (t ++ by_ Z) U W3 ht3 (by omega) (by omega) (Nat.le_of_lt ht3.lt)
      clear hZl
      gi_wp2_with fail
      refine ⟨trivial, ?_⟩
      refine (CallsIn.inRound l ((callsIn_wide (n := _)).2 hW2)).mono ?_
      rintro e W4 ⟨rfl, ht4, hb4', ho4⟩
      have s4 : Stp b W W4 := s3.trans ⟨hb4', ho4⟩
      gi_wp2_with fail
      refine HFIN.out _ (by_ Z ++ by_ U) _ s4 ht4 (by rw [List.append_assoc]) (by rw [List.length_append, by_len, by_len]; omega) ?_
      show _ = _
      rw [if_pos hlast, HZb.out, HBU.out, Hcz.out, HUN.out]
    · have hW2 := wstr_any b t U W1 ht1 (by omega) (by have := HD.out; omega) (Nat.le_of_lt ht1.lt)
      gi_wp2_with fail
      refine ⟨trivial, ?_⟩
      refine (CallsIn.inRound l ((callsIn_wide (n := _)).2 hW2)).mono ?_
      rintro e W4 ⟨rfl, ht4, hb4', ho4⟩
      have s4 : Stp b W W4 := s1.trans ⟨hb4', ho4⟩
      gi_wp2_with fail
      refine HFIN.out _ (by_ U) _ s4 ht4 rfl (by rw [by_len]; have := HD.out; omega) ?_
      show _ = _
      rw [if_neg hlast, HBU.out]
  case done =>
    rintro Dd ys W hD hys ⟨⟨t, ht, hk1, hk2, hlt, hm⟩, hB⟩ hK
    have hlen : ys.length = n := by have := congrArg List.length hys; rw [raws_len] at this; simpa using this
    have htt : Hid (t = ([] : List Nat) ++ txt N) := by show _ = _; rw [hm (by rw [hlen]; exact hys) (by omega), hlen, tops_all Hn.out hn0]
    have hS := bstr_any b t W ht (by rw [htt.out, ← HT.out]; exact itxt_lt) (Nat.le_of_lt ht.lt)
    rw [htt.out, ← HT.out] at hS
    clear hm hys hlt
    have hDd : b < Dd := by simp at hD; omega
    gi_wp2_with fail
    refine ⟨trivial, ?_⟩
    refine ((callsIn_wide (n := _)).2 hS).mono ?_
    rintro e W4 ⟨rfl, hb4', ho4⟩
    have hK4 : W4.heap[Dd]? = some (.deferred (some [])) := ho4 Dd _ hK (fun e => by have := Option.some.inj e; omega) (fun c fz e => by cases e)
    have hup4 : Up w W4 := (show Stp b W W4 from ⟨hb4', ho4⟩).up hB (by omega)
    gi_wp2_with fail
    refine ⟨by simp, .inl ⟨_, _, rfl, run_takeDeferred hK4, ?_⟩⟩
    refine ⟨.tuple #[.string (bs (itxt z)), .int .i64 0], ?_, rfl, Below.trans hup4 (belowK_b (w := w) (Nat.le_refl _) W4 Dd _ _ (by omega) hK4 rfl rfl)⟩
    simp [results, Tryz.results66, go_sem]
  case stop =>
    intro _ _ _ _ _ _ h
    exact h.elim
end Go.Proofs.YtldifgfpecicnaaGreatDoor
/- The program's Format of negative integers; of every one. -/
namespace Go.Proofs.YtldifgfpecicnaaGreatDoor
open Go.RowKit Go.Shelf
attribute [local go_sem] Oper.semAt_some

set_option maxRecDepth 100000 in
set_option maxHeartbeats 8000000 in
theorem format_neg (B : Nat) (v : Value) (z : Int) (w : World) (hv : IsInt B w v z) (hz : z.natAbs < top300) (h0 : z < 0) (hpow : Pow w) : Calls Tryz.prog 66 #[v] w fun e w' => e = .returned (.tuple #[.string (bs (itxt z)), .int .i64 0]) ∧ Up w w' := by
  have hv0 := hv
  obtain ⟨s, A, n, c, rfl, Hs, Hn, hl, hc, _⟩ := hv
  obtain rfl : s = true := by rw [Hs.out]; simp; omega
  obtain ⟨N, hN⟩ : ∃ N, N = z.natAbs := ⟨_, rfl⟩
  have HT : Hid (itxt z = [45] ++ txt N) := by
    show itxt z = _
    unfold itxt
    rw [if_neg (by omega), if_pos h0, hN]; rfl
  have hN0 : N ≠ 0 := by omega
  rw [← hN] at Hn hl
  have hn34 : n ≤ 34 := by rw [Hn.out]; exact len_of_top (by rw [hN]; exact hz)
  have hn0 : 0 < n := by rw [Hn.out]; exact Nat.pos_of_ne_zero fun h => hN0 (lim_len_zero.1 h)
  have HZ := hide hz
  obtain ⟨w0, hw0⟩ : ∃ w0, w0 = (w.alloc (.cells #[.bool true, .slice A n c] 24)) := ⟨_, rfl⟩
  have hb1 : Bk w0 (w.heap.size) 24 #[.bool true, .slice A n c] := by
    have := Bk.new w 24 #[.bool true, .slice A n c]
    rw [hw0]; simpa using this
  have hup0 : Up w w0 := by rw [hw0]; exact (Up.refl w).alloc _
  have hsz0 : w0.heap.size = w.heap.size + 1 := by rw [hw0]; simp
  have Hw0 := hide hw0
  have HN := hide hN
  clear hw0 hN hz h0 hN0
  have e1a := hb1.cell (i := 0) rfl
  have e1b := hb1.cell (i := 1) rfl
  refine (callsIn_wide (n := 5)).1 ?_
  refine callsIn_of_wp_marks Tryz.func66 rfl trivial ?_ rfl
  simp only [Tryz.ntmps66, List.size_toArray, List.length_cons, List.length_nil, Nat.reduceAdd, Nat.reduceSub, Array.replicate_succ, Array.replicate_zero, List.push_toArray, List.append_toArray, List.nil_append, List.cons_append]
  gi_wp2_with fail
  rw [← Hw0.out]
  refine ⟨trivial, ?_⟩
  refine ((callsIn_wide (n := _)).2 (validI_any _ _ z w0 (hv0.up hup0) HZ.out)).mono ?_
  rintro e w1 ⟨rfl, hup1⟩
  have hb2 := hb1.up hup1
  have e2a := hb2.cell (i := 0) rfl
  have e2b := hb2.cell (i := 1) rfl
  have hq0 : ((n : Int) == 0) = false := by rw [beq_eq_false_iff_ne]; omega
  obtain ⟨w2, hw2⟩ : ∃ w2, w2 = w1.alloc (.cells #[.pointer none, .slice none 0 0] 106) := ⟨_, rfl⟩
  obtain ⟨b, hb⟩ : ∃ b, b = w1.heap.size := ⟨_, rfl⟩
  have hbld : Bld b [] w2 := by rw [hw2, hb]; exact Bld.new w1
  have hup2 : Up w w2 := by rw [hw2]; exact (hup0.trans hup1).alloc _
  have hwb : w.heap.size < b := by rw [hb]; have := hup1.size; omega
  have hb3 : Bk w2 w.heap.size 24 #[.bool true, .slice A n c] := by rw [hw2]; exact hb2.alloc _
  have e3a : (w1.alloc (.cells #[.pointer none, .slice none 0 0] 106)).cell? ⟨w.heap.size, 0, none⟩ = some (.bool true) := by rw [← hw2]; exact hb3.cell (i := 0) rfl
  have e3b : (w1.alloc (.cells #[.pointer none, .slice none 0 0] 106)).cell? ⟨w.heap.size, 1, none⟩ = some (.slice A n c) := by rw [← hw2]; exact hb3.cell (i := 1) rfl
  have Hw2 := hide hw2
  have Hb := hide hb
  clear hw2 hb
  gi_wp2_with fail
  rw [← Hw2.out, ← Hb.out]
  refine ⟨trivial, ?_⟩
  refine ((callsIn_wide (n := _)).2 (wbyte_any b [] 45 w2 hbld (by simp) (Nat.le_of_lt hbld.lt))).mono ?_
  rintro e w3 ⟨rfl, hbld3, hq3, ho3⟩
  have s3 : Stp b w2 w3 := ⟨hq3, ho3⟩
  have hb4 := s3.bk hb3 (by omega) (by decide)
  have e4a := hb4.cell (i := 0) rfl
  have e4b := hb4.cell (i := 1) rfl
  have hup3 := s3.up hup2 (by omega)
  gi_wp2_with fail
  refine ⟨trivial, ?_⟩
  refine (back_in Fence.wide (5 - 1) trivial rfl _ _ _ _).mono ?_
  rintro e w' ⟨rfl, rfl⟩
  gi_wp2
  have bS : Bk (w3.alloc (.cells #[.slice A n c] 22)) w3.heap.size 22 #[.slice A n c] := Bk.new w3 _ _
  have hB0 : Up w (w3.alloc (.cells #[.slice A n c] 22)) := hup3.alloc _
  have hbl2 : b < w3.heap.size := hbld3.lt
  have hA : 0 < n → ∀ ad, A = some ad → ad.block < b := fun h ad e => by
    obtain ⟨ad', e', hb, _⟩ := hl.at_ (k := 0) (by rw [← Hn.out]; exact h)
    rw [e] at e'
    cases e'
    omega
  refine wpIn_rangeFunc_ownG rfl (by omega) (gf := 124) (lb := #[.pointer (some ⟨w3.heap.size, 0, none⟩)]) rfl trivial (enters_of Tryz.func124 (by kernel_rfl) rfl)
    (back_stops Fence.wide (5 - 1) trivial rfl (by omega) w3.heap.size b 1000000000 A c n (lim N) (dig_getD (dig_lim N)) (by omega) Hn _ (by simp) (bS.cell (i := 0) rfl) (hl.up hB0) hA)
    (fun h k => ⟨h.1.trans k.1, fun v hv => k.2 v (h.2 v hv)⟩)
    (fun W l o o' hle h h1 h2 => ⟨belowK_b (w := w3.alloc (.cells #[.slice A n c] 22)) (by simp; omega) W l o o' hle h h1 h2, fun v hv => (World.cell?_of_block (w := W) ((grownBy_putObj' W l o').block _ (World.block_lt_of_cell? W _ hv) (fun e => by cases e; simp at hle; omega))).trans hv⟩)
    (Below.refl _ _) (fun _ => rfl)
    (fun pre W => (∃ l : List Nat, Bld b l W ∧ Bk W w.heap.size 24 #[.bool true, .slice A n c] ∧ Bk W w3.heap.size 22 #[.slice A n c] ∧ l.length ≤ 1 + 9 * pre.length ∧ (pre.map (fun y => y.1) = raws (lim N) n pre.length → pre.length ≤ n → l = [45] ++ tops (lim N) n pre.length)) ∧ Below w.heap.size w W)
    (fun _ _ _ => False)
    (OwnFrom.and (Own.from (fun s X Y row hs hg hr => by obtain ⟨l, h1, h2, h3, h4, h5⟩ := hs; exact ⟨l, h1.kept hg hr, (grownBy_keeps_cells hg hr h2 rfl).trans h2, (grownBy_keeps_cells hg hr h3 rfl).trans h3, h4, h5⟩) _) (ownFrom_below (Nat.le_refl _) (by simp; omega)))
    (fun _ _ _ _ _ hs _ _ => hs)
    ⟨⟨[45], hbld3.up ((Up.refl w3).alloc _), hb4.alloc _, bS, (by simp), fun _ _ => rfl⟩, hB0⟩
    (fun y => { tmps := #[.agg #[.bool true, .slice A n c], .pointer (some ⟨w.heap.size, 0, none⟩), .string ⟨#[]⟩, .int .i64 0, .pointer (some ⟨b, 0, none⟩), .int .i64 (y.1.1 : Nat), .int .u32 (y.1.2 : Nat), undef, .agg #[.bool true, .slice A n c], .bool true, .bool false, .pointer (some ⟨w.heap.size, 1, none⟩), .slice A n c, .int .i64 (n : Nat), .bool false, .pointer (some ⟨w.heap.size, 0, none⟩), .bool true, .nilIface, .pointer (some ⟨w.heap.size, 1, none⟩), .slice A n c, .func (.func 124) #[] #[.pointer (some ⟨w3.heap.size, 0, none⟩)], .int .i64 (y.1.1 : Nat), .int .u32 (y.1.2 : Nat), undef, undef, undef, undef, undef, undef, undef, undef, undef, undef, undef, undef, undef, undef, undef, undef, undef], defers := [] }) ?assign ?body ?done ?stop
  case assign =>
    intro l y W K hK
    gi_wp2
    exact hK
  case body =>
    rintro l pre y W ⟨⟨t, ht, hk1, hk2, hlt, hm⟩, hB⟩ hlen
    have HM := hide hm
    clear hm
    obtain ⟨x, hxe⟩ : ∃ x, x = y.1.2 := ⟨_, rfl⟩
    obtain ⟨i, hie⟩ : ∃ i, i = y.1.1 := ⟨_, rfl⟩
    have hx9 : x < 1000000000 := by rw [hxe]; exact y.2.2
    have hin : i < n := by rw [hie]; exact y.2.1
    rw [← hxe, ← hie]
    have hbW := Nat.le_of_lt ht.lt
    have hF := fmt_any x W hx9 (hpow.up hB)
    obtain ⟨U, hU⟩ : ∃ U, U = ubs x := ⟨_, rfl⟩
    rw [← hU] at hF
    obtain ⟨D, hD⟩ : ∃ D, D = U.size := ⟨_, rfl⟩
    have hD9 : 1 ≤ D ∧ D ≤ 9 := by rw [hD, hU, ubs_size]; exact ndig_9 hx9
    obtain ⟨D1, D9⟩ := hD9
    have HX := hide hxe
    have HI := hide hie
    have HU := hide hU
    have HD := hide hD
    clear hxe hie hU
    gi_wp2_with fail
    refine ⟨trivial, ?_⟩
    refine (CallsIn.inRound l ((callsIn_wide (n := _)).2 hF)).mono ?_
    rintro e W1 ⟨rfl, hu1⟩
    have s1 := Stp.of_up hu1 hbW
    have kA := s1.bk hk1 (by omega) (by decide)
    have cA := kA.cell (i := 1) rfl
    have hfin : ∀ (t' Z : List Nat) (W' : World), Stp b W W' → Bld b t' W' → t' = t ++ Z → Z.length ≤ 9 → Hid (Z = if i < n - 1 then List.replicate (9 - Lib.nDigits x) 48 ++ dg (Lib.nDigits x) x else dg (Lib.nDigits x) x) →
        KeepsFrom (w3.alloc (.cells #[.slice A n c] 22)).heap.size W W' ∧ KeepBox b w3.heap.size W W' ∧ ((∃ l : List Nat, Bld b l W' ∧ Bk W' w.heap.size 24 #[.bool true, .slice A n c] ∧ Bk W' w3.heap.size 22 #[.slice A n c] ∧ l.length ≤ 1 + 9 * (pre ++ [y]).length ∧ ((pre ++ [y]).map (fun y => y.1) = raws (lim N) n (pre ++ [y]).length → (pre ++ [y]).length ≤ n → l = [45] ++ tops (lim N) n (pre ++ [y]).length)) ∧ Below w.heap.size w W') := by
      intro t' Z W' hs hb' ht' hZ HZ'
      have kS := hs.bk hk2 (by omega) (by decide)
      have kA := hs.bk hk1 (by omega) (by decide)
      have hpl : (pre ++ [y]).length = pre.length + 1 := by simp
      refine ⟨hs.from (by simp; omega), ⟨hs.1, fun v hv => ?_⟩, ⟨t', hb', kA, kS, ?_, fun h1 h2 => ?_⟩, hs.up hB (by omega)⟩
      · rw [hk2.cell (i := 0) rfl] at hv
        rw [kS.cell (i := 0) rfl]; exact hv
      · rw [ht', List.length_append, hpl]; omega
      · obtain ⟨_, h4, h5⟩ := raws_snoc h1
        rw [ht', hpl, HM.out h4 (by omega), HZ'.out]
        have hi : i = n - 1 - pre.length := by rw [HI.out, h5]
        have hx : x = (lim N).getD (n - 1 - pre.length) 0 := by rw [HX.out, h5]
        rw [tops_step Hn.out hlen hx hx9, hi, List.append_assoc]
    have HFIN := hide hfin
    clear hfin
    have hbU : by_ U = dg (Lib.nDigits x) x := by rw [HU.out, by_ubs]
    have hUn : Lib.nDigits x = U.size := by rw [HU.out, ubs_size]
    have HBU := hide hbU
    have HUN := hide hUn
    clear hbU hUn
    have ht1 := ht.up hu1
    have htl : t.length ≤ 1000 := by omega
    by_cases hlast : i < n - 1
    · have hsub : IntKind.i64.wrap ((n : Int) - 1) = ((n - 1 : Nat) : Int) := by rw [IntKind.wrap_i64]; omega
      gi_wp2_with fail
      obtain ⟨cz, hcz⟩ : ∃ cz : Nat, cz = 9 - U.size := ⟨_, rfl⟩
      have hUD := HD.out
      have hcz9 : cz ≤ 9 := by omega
      have hczU : cz + U.size = 9 := by omega
      rw [show (9 : Int) - (U.size : Int) = (cz : Int) by omega]
      refine ⟨trivial, ?_⟩
      refine (CallsIn.inRound l ((callsIn_wide (n := _)).2 (rep_any cz W1 (by omega)))).mono ?_
      rintro e W2 ⟨rfl, hu2⟩
      obtain ⟨Z, hZ⟩ : ∃ Z, Z = bs (List.replicate cz 48) := ⟨_, rfl⟩
      rw [← hZ]
      have hZs : Z.size = cz := by rw [hZ, bs_size, List.length_replicate]
      have hZb : by_ Z = List.replicate cz 48 := by rw [hZ, by_zeros]
      have ht2 := ht1.up hu2
      have s2 := s1.trans (Stp.of_up hu2 (Nat.le_of_lt ht1.lt))
      have hW1 := wstr_any b t Z W2 ht2 (by omega) (by omega) (Nat.le_of_lt ht2.lt)
      have HZb := hide hZb
      have Hcz := hide hcz
      clear hZ hZb hcz
      gi_wp2_with fail
      refine ⟨trivial, ?_⟩
      refine (CallsIn.inRound l ((callsIn_wide (n := _)).2 hW1)).mono ?_
      rintro e W3 ⟨rfl, ht3, hb3', ho3⟩
      have s3 : Stp b W W3 := s2.trans ⟨hb3', ho3⟩
      have hZl : (t ++ by_ Z).length ≤ 2000 := by rw [List.length_append, by_len]; omega
      have hW2 := wstr_any b (t ++ by_ Z) U W3 ht3 (by omega) (by omega) (Nat.le_of_lt ht3.lt)
      clear hZl
      gi_wp2_with fail
      refine ⟨trivial, ?_⟩
      refine (CallsIn.inRound l ((callsIn_wide (n := _)).2 hW2)).mono ?_
      rintro e W4 ⟨rfl, ht4, hb4', ho4⟩
      have s4 : Stp b W W4 := s3.trans ⟨hb4', ho4⟩
      gi_wp2_with fail
      refine HFIN.out _ (by_ Z ++ by_ U) _ s4 ht4 (by rw [List.append_assoc]) (by rw [List.length_append, by_len, by_len]; omega) ?_
      show _ = _
      rw [if_pos hlast, HZb.out, HBU.out, Hcz.out, HUN.out]
    · have hW2 := wstr_any b t U W1 ht1 (by omega) (by have := HD.out; omega) (Nat.le_of_lt ht1.lt)
      gi_wp2_with fail
      refine ⟨trivial, ?_⟩
      refine (CallsIn.inRound l ((callsIn_wide (n := _)).2 hW2)).mono ?_
      rintro e W4 ⟨rfl, ht4, hb4', ho4⟩
      have s4 : Stp b W W4 := s1.trans ⟨hb4', ho4⟩
      gi_wp2_with fail
      refine HFIN.out _ (by_ U) _ s4 ht4 rfl (by rw [by_len]; have := HD.out; omega) ?_
      show _ = _
      rw [if_neg hlast, HBU.out]
  case done =>
    rintro Dd ys W hD hys ⟨⟨t, ht, hk1, hk2, hlt, hm⟩, hB⟩ hK
    have hlen : ys.length = n := by have := congrArg List.length hys; rw [raws_len] at this; simpa using this
    have htt : Hid (t = [45] ++ txt N) := by show _ = _; rw [hm (by rw [hlen]; exact hys) (by omega), hlen, tops_all Hn.out hn0]
    have hS := bstr_any b t W ht (by rw [htt.out, ← HT.out]; exact itxt_lt) (Nat.le_of_lt ht.lt)
    rw [htt.out, ← HT.out] at hS
    clear hm hys hlt
    have hDd : b < Dd := by simp at hD; omega
    gi_wp2_with fail
    refine ⟨trivial, ?_⟩
    refine ((callsIn_wide (n := _)).2 hS).mono ?_
    rintro e W4 ⟨rfl, hb4', ho4⟩
    have hK4 : W4.heap[Dd]? = some (.deferred (some [])) := ho4 Dd _ hK (fun e => by have := Option.some.inj e; omega) (fun c fz e => by cases e)
    have hup4 : Up w W4 := (show Stp b W W4 from ⟨hb4', ho4⟩).up hB (by omega)
    gi_wp2_with fail
    refine ⟨by simp, .inl ⟨_, _, rfl, run_takeDeferred hK4, ?_⟩⟩
    refine ⟨.tuple #[.string (bs (itxt z)), .int .i64 0], ?_, rfl, Below.trans hup4 (belowK_b (w := w) (Nat.le_refl _) W4 Dd _ _ (by omega) hK4 rfl rfl)⟩
    simp [results, Tryz.results66, go_sem]
  case stop =>
    intro _ _ _ _ _ _ h
    exact h.elim
end Go.Proofs.YtldifgfpecicnaaGreatDoor
/- Format of every integer; for every text the law of Parse returns true. -/
namespace Go.Proofs.YtldifgfpecicnaaGreatDoor
open Go.RowKit

theorem format_zero (B : Nat) (v : Value) (w : World) (hv : IsInt B w v 0) : Calls Tryz.prog 66 #[v] w fun e w' => e = .returned (.tuple #[.string (bs (itxt 0)), .int .i64 0]) ∧ Up w w' := by
  have hv0 := hv
  obtain ⟨s, A, n, c, rfl, Hs, Hn, hl, hc, _⟩ := hv
  obtain rfl : n = 0 := by rw [Hn.out]; simp [lim_zero]
  obtain ⟨w0, hw0⟩ : ∃ w0, w0 = (w.alloc (.cells #[.bool s, .slice A 0 c] 24)) := ⟨_, rfl⟩
  have hb1 : Bk w0 (w.heap.size) 24 #[.bool s, .slice A 0 c] := by
    have := Bk.new w 24 #[.bool s, .slice A 0 c]
    rw [hw0]; simpa using this
  have hup0 : Up w w0 := by rw [hw0]; exact (Up.refl w).alloc _
  have Hw0 := hide hw0
  clear hw0
  have e1a := hb1.cell (i := 0) rfl
  have e1b := hb1.cell (i := 1) rfl
  go_enter Tryz.func66, Tryz.ntmps66
  go_wp2_with fail
  rw [← Hw0.out]
  refine (validI_any _ _ 0 w0 (hv0.up hup0) (by decide +kernel)).mono ?_
  rintro e w1 ⟨rfl, hup1⟩
  have hb2 := hb1.up hup1
  have e2a := hb2.cell (i := 0) rfl
  have e2b := hb2.cell (i := 1) rfl
  go_wp2
  go_ret2
  exact ⟨rfl, hup0.trans hup1⟩
theorem format_any (B : Nat) (v : Value) (z : Int) (w : World) (hv : IsInt B w v z) (hz : z.natAbs < top300) (hpow : Pow w) : Calls Tryz.prog 66 #[v] w fun e w' => e = .returned (.tuple #[.string (bs (itxt z)), .int .i64 0]) ∧ Up w w' := by
  rcases Int.lt_trichotomy z 0 with h | h | h
  · exact format_neg B v z w hv hz h hpow
  · subst h; exact format_zero B v w hv
  · exact format_pos B v z w hv hz h hpow
theorem okS_back {s : ByteArray} (h : okS s = true) : bs (itxt (valS s)) = s ∧ (valS s).natAbs < top300 := by
  cases hn : negB s with
  | false =>
    obtain ⟨h1, h2, h3, h4⟩ := (okS_pos hn).1 h
    have hc : cutS s = s := by unfold cutS; rw [hn]; rfl
    unfold valS
    rw [hc, hn, sgn_abs]
    exact ⟨h4, dvf_top h1 h3⟩
  | true =>
    obtain ⟨h1, h2, h3, h4⟩ := (okS_neg hn rfl).1 h
    have hc : cutS s = s.extract 1 s.size := by unfold cutS; rw [hn]; rfl
    unfold valS
    rw [hc, hn, sgn_abs]
    exact ⟨h4, dvf_top h1 h3⟩
end Go.Proofs.YtldifgfpecicnaaGreatDoor
