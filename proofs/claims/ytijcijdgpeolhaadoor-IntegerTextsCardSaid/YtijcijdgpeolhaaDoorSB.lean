import Derived.Test.YtijcijdgpeolhaaDoorSA
import Derived.Test.YtijcijdgpeolhaaDoorShelf
import Derived.Lib.ItoaMem
import Derived.Laws.Slices
import Derived.Shelf.Strings.BuilderK
import Derived.Test.YtijcijdgpeolhaaDoorBase4
import Derived.RangeFuncOwn
import Derived.RangeFuncWrites
import Derived.Lib.BufferKept
import Derived.Test.YtijcijdgpeolhaaDoorE2
import Derived.Test.YtijcijdgpeolhaaDoorD6
import Derived.Test.YtijcijdgpeolhaaDoorH1
import Derived.Test.YtijcijdgpeolhaaDoorL0
import Derived.Test.YtijcijdgpeolhaaDoorCards
import Derived.Test.YtijcijdgpeolhaaDoorTie
import Derived.ProofKit
import Derived.OpenShut
import Derived.ChangeOld
import Derived.Below
import Derived.Lib.SmallJoins
import Derived.Deep.DeepHandedRow
import Derived.Lib.LaidTab
import Derived.Lib.LaidU8
import Derived.LaidSub
import Derived.SevenTiedAt
/- strconv.FormatUint at base 10, of numbers below 10^9. -/
namespace Go.Proofs.YtijcijdgpeolhaaDoor
open Go.RowKit Go.Sort

/-- The table of powers of ten is laid. -/
def Pow (w : World) : Prop := Lib.TabIs Tryd.prog w "internal/strconv.uint64pow10" .u64 Lib.pow10Tab
theorem Pow.up {w w' : World} (h : Pow w) (hu : Up w w') : Pow w' := by
  unfold Pow Lib.TabIs World.var? at *
  cases hg : Tryd.prog.globalNamed "internal/strconv.uint64pow10" with
  | none => simp [hg] at h
  | some g =>
    simp only [hg, Option.bind_some] at h ⊢
    have hlt : g < w.heap.size := by
      rcases Nat.lt_or_ge g w.heap.size with h' | h'
      · exact h'
      · rw [Array.getElem?_eq_none h'] at h; simp at h
    rw [hu.block g hlt]
    exact h
theorem up_grow {a w : World} (h : Up a w) (os : Array Obj) : Up a (grow w os) :=
  ⟨h.os, h.tape, h.output, by rw [size_grow]; have := h.size; omega, fun k hk => by
    rw [← h.block k hk]
    show (w.heap ++ os)[k]? = w.heap[k]?
    exact Array.getElem?_append_left (by have := h.size; omega)⟩
theorem holds0 (w : World) (T : TypeId) (nd : Nat) (hs : nd ≤ 24) : Holds (fun (b : UInt8) => Value.int .u8 (b.toNat : Int)) (w.alloc (.cells Lib.zeros24 T)) w.heap.size 0 (Array.replicate nd (0 : UInt8)) := fun j hj => by
  have hj' : j < nd := by simpa using hj
  refine ⟨?_, World.frozen?_alloc_new _ _ _ _⟩
  rw [World.cell?_alloc_new, Lib.zeros24_at _ (by omega), getElem!_pos _ j hj]
  simp
theorem up_row (w : World) (o : Obj) (dk : Array UInt8) (k : Nat) : Up w ((putRow (fun (b : UInt8) => Value.int .u8 (b.toNat : Int)) (w.alloc o) w.heap.size 0 dk).drewN k) := by
  rw [alloc_eq_grow]
  obtain ⟨os', _, e⟩ := putRow_grow_new (fun (b : UInt8) => Value.int .u8 (b.toNat : Int)) w #[o] w.heap.size 0 dk (Nat.le_refl _)
  rw [e]
  exact (up_grow (Up.refl w) os').drewN k
theorem ifmt_small (u : Nat) (w : World) (hu : u < 100) : Calls Tryd.prog 46 #[.int .u64 u, .int .i64 10] w fun e w' => e = .returned (.string (ubs u)) ∧ Up w w' := by
  have hc : ∀ w, Calls Tryd.prog 62 #[.int .i64 u] w fun e w' => e = .returned (.string (ubs u)) ∧ w' = w := fun w => by
    rw [← ubs_dec]; exact Tryd.internal_strconv_small u hu w
  go_enter Tryd.func46, Tryd.ntmps46
  go_wp2_with (go_at_call 62; refine (hc _).mono ?_; rintro e w' ⟨rfl, rfl⟩)
  go_ret
  exact ⟨rfl, Up.refl _⟩
set_option maxRecDepth 100000 in
set_option maxHeartbeats 2000000 in
theorem ifmt_big (u : Nat) (w : World) (hu1 : 100 ≤ u) (hu : u < 1000000000) (htab : Pow w) : Calls Tryd.prog 46 #[.int .u64 u, .int .i64 10] w fun e w' => e = .returned (.string (ubs u)) ∧ Up w w' := by
  have hnd := (ndig_9 hu)
  obtain ⟨D, hD⟩ : ∃ D, D = Lib.nDigits u := ⟨_, rfl⟩
  have hD9 : D ≤ 24 := by omega
  have HDp := hide (show u < 10 ^ D by rw [hD]; exact Lib.lt_pow_nDigits u)
  have hH0 := holds0 w 96 D hD9
  have hfmt := Tryd.internal_strconv_formatBase10 w.heap.size 0 24 u (Array.replicate D 0) (w.alloc (.cells Lib.zeros24 96)) hH0 (by rw [Array.size_replicate]; exact HDp.out) (by omega) (by rw [Array.size_replicate]; omega)
  rw [Array.size_replicate] at hfmt
  have HH0 := hide hH0
  have hnum := fun w (h : Pow w) => Tryd.internal_strconv_numDigits u (by omega) (by omega) w h
  rw [← hD] at hnum
  have hpow := htab.up ((Up.refl w).alloc (.cells Lib.zeros24 96))
  have hsl : ∀ W, (Instr.sliceAt 96 (.pointer (some ⟨w.heap.size, 0, none⟩)) none (some (.int .i64 (D : Int))) none).run Tryd.prog W = .ok (.slice (some ⟨w.heap.size, 0, none⟩) D 24) W := fun W => by
    have hal : Tryd.prog.arrayLen 96 = 24 := by simp [Program.arrayLen, Tryd.underlying96]
    rw [run_sliceAt_array_h W 96 ⟨w.heap.size, 0, none⟩ (by simp [Program.arrayLen, Program.elem, Tryd.underlying96]) .i64 (D : Int) (by omega) (by rw [hal]; omega)]
    go_simp
  have HD := hide hD
  clear hH0 hD hnd htab
  go_enter Tryd.func46, Tryd.ntmps46
  go_wp2_with (first | (go_at_call 63; refine (hnum _ hpow).mono ?_; rintro e w' ⟨rfl, rfl⟩))
  refine hfmt.mono ?_
  rintro e w' ⟨rfl, k, v', dk, rfl, hF⟩
  have hup := up_row w (.cells Lib.zeros24 96) dk k
  obtain ⟨W3, hW3⟩ : ∃ W3, W3 = (putRow (fun (b : UInt8) => Value.int .u8 (b.toNat : Int)) (w.alloc (.cells Lib.zeros24 96)) w.heap.size 0 dk).drewN k := ⟨_, rfl⟩
  rw [← hW3] at hup ⊢
  have hcv : (convert 48 9 (.slice (some ⟨w.heap.size, 0, none⟩) D 24)).run Tryd.prog W3 = .ok (.string (ubs u)) W3 := by
    have hD := HD.out
    have h := run_convert_bytes_back (P := Tryd.prog) W3 48 9 5 ⟨w.heap.size, 0, none⟩ 24 (Lib.decDigits u) Tryd.underlying48 Tryd.underlying5 Tryd.underlying9 (fun j hj => by
      have hF' : Lib.FmtInv (Lib.nDigits u) u 0 v' dk := by rw [← hD]; exact hF
      have hj' : j < dk.size := by rw [hF.size, hD]; rw [Lib.decDigits_length] at hj; exact hj
      have hg := cell?_putRow (fun (b : UInt8) => Value.int .u8 (b.toNat : Int)) _ w.heap.size 0 _ dk HH0.out (by rw [hF.size, Array.size_replicate]) j hj'
      rw [Nat.zero_add] at hg
      rw [Lib.row_is_numeral hF' j hj, Lib.add_plain, Nat.zero_add, hW3, World.cell?_drewN]
      exact hg)
    rw [Lib.decDigits_length, ← hD, ubs_dec] at h
    exact h
  clear hW3 hF HH0
  go_wp2
  go_ret
  exact ⟨rfl, hup⟩
theorem ifmt_any (u : Nat) (w : World) (hu : u < 1000000000) (htab : Pow w) : Calls Tryd.prog 46 #[.int .u64 u, .int .i64 10] w fun e w' => e = .returned (.string (ubs u)) ∧ Up w w' := by
  by_cases h : u < 100
  · exact ifmt_small u w h
  · exact ifmt_big u w (by omega) hu htab
/-- strconv.FormatUint. -/
theorem fmt_any (u : Nat) (w : World) (hu : u < 1000000000) (htab : Pow w) : Calls Tryd.prog 23 #[.int .u64 u, .int .i64 10] w fun e w' => e = .returned (.string (ubs u)) ∧ Up w w' := by
  have hc := fun w (h : Pow w) => ifmt_any u w hu h
  have hw : Pow w := htab
  have HU := hide hu
  clear hu
  go_enter Tryd.func23, Tryd.ntmps23
  go_wp2_with (go_at_call 46; refine (hc _ hw).mono ?_; rintro e w' ⟨rfl, hup⟩)
  go_ret
  exact ⟨rfl, hup⟩
end Go.Proofs.YtijcijdgpeolhaaDoor
/- The builder's writes: out of the laying of strings.Repeat. -/
namespace Go.Proofs.YtijcijdgpeolhaaDoor
open Go.RowKit

def ren8 : Go.Shelf.Ren := ⟨fun | 167 => 21 | 105 => 25 | 212 => 47 | 99 => 48 | 165 => 49 | 166 => 24 | 170 => 50 | 169 => 26 | 263 => 66 | 264 => 67 | 206 => 68 | 240 => 44 | 241 => 69 | 276 => 61 | 277 => 82 | n => n, fun | 9 => 9 | 3 => 3 | 4 => 4 | 20 => 20 | 0 => 0 | 46 => 80 | 109 => 81 | 5 => 5 | 72 => 50 | 76 => 59 | 51 => 41 | 146 => 101 | 53 => 58 | 148 => 103 | 70 => 47 | 37 => 48 | 75 => 52 | 127 => 86 | 164 => 93 | 80 => 62 | n => n, fun | n => n⟩
theorem lay167 : Go.Proofs.Lays.n167 Tryd.prog ren8 := {
  mixed := by kernel_rfl
  f167 := Tryd.func21.trans (congrArg some (by kernel_rfl))
  f240 := Tryd.func44.trans (congrArg some (by kernel_rfl))
  f276 := Tryd.func61.trans (congrArg some (by kernel_rfl))
  t0 := Tryd.underlying0
  a0 := Tryd.isAgg0
  z0 := Tryd.sizeOf0
  v0 := Tryd.zeroValue0
  t4 := Tryd.underlying4
  a4 := Tryd.isAgg4
  z4 := Tryd.sizeOf4
  v4 := Tryd.zeroValue4
  t5 := Tryd.underlying5
  a5 := Tryd.isAgg5
  z5 := Tryd.sizeOf5
  v5 := Tryd.zeroValue5
  t9 := Tryd.underlying9
  a9 := Tryd.isAgg9
  z9 := Tryd.sizeOf9
  v9 := Tryd.zeroValue9
  t20 := Tryd.underlying20
  a20 := Tryd.isAgg20
  z20 := Tryd.sizeOf20
  v20 := Tryd.zeroValue20
  t37 := Tryd.underlying48
  a37 := Tryd.isAgg48
  z37 := Tryd.sizeOf48
  v37 := Tryd.zeroValue48
  t70 := Tryd.underlying47
  a70 := Tryd.isAgg47
  z70 := Tryd.sizeOf47
  v70 := Tryd.zeroValue47
  t72 := Tryd.underlying50
  a72 := Tryd.isAgg50
  z72 := Tryd.sizeOf50
  v72 := Tryd.zeroValue50
  t75 := Tryd.underlying52
  a75 := Tryd.isAgg52
  z75 := Tryd.sizeOf52
  v75 := Tryd.zeroValue52
  t164 := Tryd.underlying93
  a164 := Tryd.isAgg93
  z164 := Tryd.sizeOf93
  v164 := Tryd.zeroValue93 }
theorem lay166 : Go.Proofs.Lays.n166 Tryd.prog ren8 := {
  mixed := by kernel_rfl
  f166 := Tryd.func24.trans (congrArg some (by kernel_rfl))
  f240 := Tryd.func44.trans (congrArg some (by kernel_rfl))
  f276 := Tryd.func61.trans (congrArg some (by kernel_rfl))
  t0 := Tryd.underlying0
  a0 := Tryd.isAgg0
  z0 := Tryd.sizeOf0
  v0 := Tryd.zeroValue0
  t3 := Tryd.underlying3
  a3 := Tryd.isAgg3
  z3 := Tryd.sizeOf3
  v3 := Tryd.zeroValue3
  t4 := Tryd.underlying4
  a4 := Tryd.isAgg4
  z4 := Tryd.sizeOf4
  v4 := Tryd.zeroValue4
  t9 := Tryd.underlying9
  a9 := Tryd.isAgg9
  z9 := Tryd.sizeOf9
  v9 := Tryd.zeroValue9
  t20 := Tryd.underlying20
  a20 := Tryd.isAgg20
  z20 := Tryd.sizeOf20
  v20 := Tryd.zeroValue20
  t37 := Tryd.underlying48
  a37 := Tryd.isAgg48
  z37 := Tryd.sizeOf48
  v37 := Tryd.zeroValue48
  t70 := Tryd.underlying47
  a70 := Tryd.isAgg47
  z70 := Tryd.sizeOf47
  v70 := Tryd.zeroValue47
  t72 := Tryd.underlying50
  a72 := Tryd.isAgg50
  z72 := Tryd.sizeOf50
  v72 := Tryd.zeroValue50
  t75 := Tryd.underlying52
  a75 := Tryd.isAgg52
  z75 := Tryd.sizeOf52
  v75 := Tryd.zeroValue52
  t164 := Tryd.underlying93
  a164 := Tryd.isAgg93
  z164 := Tryd.sizeOf93
  v164 := Tryd.zeroValue93 }
theorem ext8 : Builder.Extra Tryd.prog ren8 := {
  sizeBuilder := by kernel_rfl
  liesBuilder := by kernel_rfl
  t5 := Tryd.underlying5
  a5 := Tryd.isAgg5
  z5 := Tryd.sizeOf5
  v5 := Tryd.zeroValue5
  infoByte := by kernel_rfl
  cellsByte := by kernel_rfl
  sizeByte := by kernel_rfl
  neB5 := by decide }
/-- The builder in block b holds some bytes. -/
def Bld (b : Nat) (l : List Nat) (w : World) : Prop := Lib.IsBuilderF 50 5 b b (l.map fun (x : Nat) => Value.int .u8 (x : Int)) w
theorem wbyte_any (b : Nat) (l : List Nat) (c : Nat) (w : World) (h : Bld b l w) (hl : l.length ≤ 1000000) (hb : b ≤ w.heap.size) :
    Calls Tryd.prog 21 #[.pointer (some ⟨b, 0, none⟩), .int .u8 c] w fun e w' => e = .returned .nilIface ∧ Bld b (l ++ [c]) w' ∧ Below b w w' ∧ Lib.OthersKept 5 (some b) w w' := by
  refine (Any.Builder_WriteByte_k lay167 ext8 b b _ c w h (by simp; omega) hb).mono ?_
  rintro e w' ⟨rfl, h1, h2, h3⟩
  exact ⟨rfl, Or.inr (by rw [List.map_append]; exact h1), h2, h3⟩
theorem strCells_map (s : ByteArray) : Lib.strCells s = (by_ s).map fun (x : Nat) => Value.int .u8 (x : Int) := by
  unfold Lib.strCells by_
  rw [List.map_map]
  rfl
theorem wstr_any (b : Nat) (l : List Nat) (s : ByteArray) (w : World) (h : Bld b l w) (hl : l.length ≤ 1000000) (hs : s.size ≤ 1000000) (hb : b ≤ w.heap.size) :
    Calls Tryd.prog 24 #[.pointer (some ⟨b, 0, none⟩), .string s] w fun e w' => e = .returned (.tuple #[.int .i64 s.size, .nilIface]) ∧ Bld b (l ++ by_ s) w' ∧ Below b w w' ∧ Lib.OthersKept 5 (some b) w w' := by
  refine (Any.Builder_WriteString_k lay166 ext8 b b _ s w h (by simp; omega) hb).mono ?_
  rintro e w' ⟨rfl, h1, h2, h3⟩
  rw [strCells_map, ← List.map_append] at h1
  exact ⟨rfl, Or.inr h1, h2, h3⟩
theorem bstr_any (b : Nat) (l : List Nat) (w : World) (h : Bld b l w) (hx : ∀ x ∈ l, x < 256) (hb : b ≤ w.heap.size) :
    Calls Tryd.prog 26 #[.pointer (some ⟨b, 0, none⟩)] w fun e w' => e = .returned (.string (bs l)) ∧ Below b w w' ∧ Lib.OthersKept 5 (some b) w w' := by
  refine (Any.Builder_String_any_k Tryd.lays169 Tryd.Builder_Extra_169 b b (l.map UInt8.ofNat) w ?_ hb).mono ?_
  · have : Lib.byteCells (l.map UInt8.ofNat) = l.map fun (x : Nat) => Value.int .u8 (x : Int) := by
      unfold Lib.byteCells
      rw [List.map_map]
      refine List.map_congr_left fun x hx' => ?_
      show Value.int .u8 ((UInt8.ofNat x).toNat : Int) = _
      rw [UInt8.toNat_ofNat_of_lt' (hx x hx')]
    rw [this]; exact h
  · rintro e w' ⟨rfl, _, h2, h3⟩
    exact ⟨rfl, h2, h3⟩
theorem rep_zeros (c : Nat) : Lib.repeatL [48] c = (List.replicate c 48).map UInt8.ofNat := by
  induction c with
  | zero => rfl
  | succ c ih => show 48 :: Lib.repeatL [48] c = _; rw [ih, List.replicate_succ]; rfl
/-- strings.Repeat of a zero. -/
theorem rep_any (c : Nat) (w : World) (hc : c ≤ 1000000) :
    Calls Tryd.prog 25 #[.string ⟨#[48]⟩, .int .i64 c] w fun e w' => e = .returned (.string (bs (List.replicate c 48))) ∧ Up w w' := by
  refine (Tryd.strings_Repeat ⟨#[48]⟩ c w (by omega) (by show 1 * c ≤ _; omega)).mono ?_
  rintro e w' ⟨rfl, h⟩
  exact ⟨by show Ending.returned (.string ⟨(Lib.repeatL [48] c).toArray⟩) = _; rw [rep_zeros]; rfl, h⟩
theorem Bld.new (w : World) : Bld w.heap.size [] (w.alloc (.cells #[.pointer none, .slice none 0 0] 50)) :=
  Or.inl (Lib.BuilderAtF.of ⟨Nat.le_refl _, .slice none 0 0, heap_alloc_new w _, World.ownsRow_nil _ _ _ _, by intro h; cases h⟩)
theorem Bld.kept {b : Nat} {l : List Nat} {W W' : World} {row : Option Nat} (h : Bld b l W) (hg : W.grownBy W' row) (hr : ∀ r, row = some r → ∃ o : Obj, W.heap[r]? = some o ∧ o.isCells = false) : Bld b l W' := by
  have key : ∀ p bs, Lib.BuilderAtF 50 5 b b p bs W → Lib.BuilderAtF 50 5 b b p bs W' := by
    rintro p bs ⟨h1, v, h2, h3, h4⟩
    refine ⟨h1, v, (grownBy_keeps_cells hg hr h2 rfl).trans h2, h3.kept hg ?_, h4⟩
    cases hv : v.ownBlock with
    | none => exact Or.inl rfl
    | some k =>
      right
      intro e
      obtain ⟨o, ho, hc⟩ := hr k e.symm
      rcases h3.2 with ⟨rfl, _⟩ | ⟨g, cap, cur, fz, rfl, _, hgg, _⟩
      · cases hv
      · simp [Value.ownBlock] at hv
        subst hv
        rw [hgg] at ho; cases ho; cases hc
  exact h.imp (key _ _) (key _ _)
theorem Bld.lt {b : Nat} {l : List Nat} {W : World} (h : Bld b l W) : b < W.heap.size := h.elim (fun h => h.lt) (fun h => h.lt)
theorem Bld.up {b : Nat} {l : List Nat} {W W' : World} (h : Bld b l W) (hu : Up W W') : Bld b l W' := h.kept (up_grown hu) (fun r e => by cases e)
/-- What a write of the builder in block b keeps. -/
def Stp (b : Nat) (W W' : World) : Prop := Below b W W' ∧ Lib.OthersKept 5 (some b) W W'
theorem Stp.refl (b : Nat) (W : World) : Stp b W W := ⟨Below.refl _ _, Lib.OthersKept.refl _ _ _⟩
theorem Stp.trans {b : Nat} {A C D : World} (h : Stp b A C) (k : Stp b C D) : Stp b A D := ⟨h.1.trans k.1, h.2.trans k.2⟩
theorem Stp.of_up {b : Nat} {W W' : World} (h : Up W W') (hb : b ≤ W.heap.size) : Stp b W W' := ⟨Below.mono h hb, (Lib.OthersKept.refl _ _ W).below h⟩
theorem Stp.up {b : Nat} {w W W' : World} (h : Stp b W W') (hu : Up w W) (hb : w.heap.size ≤ b) : Up w W' := Below.trans hu (Below.mono h.1 hb)
theorem Stp.bk {b g t : Nat} {cs : Array Value} {W W' : World} (h : Stp b W W') (hk : Bk W g t cs) (hg : g ≠ b) (ht : t ≠ 5) : Bk W' g t cs :=
  h.2 g _ hk (fun e => hg (Option.some.inj e)) (fun c fz e => by injection e with _ e2 _; exact ht e2)
theorem Stp.from {b B : Nat} {W W' : World} (h : Stp b W W') (hB : b < B) : KeepsFrom B W W' :=
  ⟨h.1.size, fun k o hk ho hc => h.2 k o ho (fun e => by have := Option.some.inj e; omega) (fun c fz e => by rw [e] at hc; cases hc)⟩
end Go.Proofs.YtijcijdgpeolhaaDoor
/- The program's Format. -/
namespace Go.Proofs.YtijcijdgpeolhaaDoor
open Go.RowKit Go.Shelf
attribute [local go_sem] Oper.semAt_some

/-- The text of the k highest limbs. -/
def tops (L : List Nat) (n k : Nat) : List Nat := if k = 0 then [] else txt (val (L.drop (n - k)))
theorem drop_ne {N n k : Nat} (hn : n = (lim N).length) (h1 : 1 ≤ k) (hk : k ≤ n) : val ((lim N).drop (n - k)) ≠ 0 := by
  induction k with
  | zero => omega
  | succ k ih =>
    rw [drop_back hn (by omega)]
    rcases Nat.eq_zero_or_pos k with h | h
    · subst h
      have := (dgt_top hn (by omega)).2
      rw [Nat.sub_zero]; omega
    · have := ih h (by omega); omega
theorem tops_step {N n k x : Nat} (hn : n = (lim N).length) (hk : k < n) (hx : x = (lim N).getD (n - 1 - k) 0) (hx9 : x < 1000000000) :
    tops (lim N) n (k + 1) = tops (lim N) n k ++ (if n - 1 - k < n - 1 then List.replicate (9 - Lib.nDigits x) 48 ++ dg (Lib.nDigits x) x else dg (Lib.nDigits x) x) := by
  unfold tops
  rw [if_neg (by omega), drop_back hn hk, ← hx]
  rcases Nat.eq_zero_or_pos k with h | h
  · subst h
    rw [if_pos rfl, if_neg (by omega), Nat.sub_zero, List.drop_eq_nil_of_le (by omega)]
    have h0 := (dgt_top hn (by omega)).2
    rw [Nat.sub_zero] at hx
    rw [← hx] at h0
    rw [dgt_ndig h0]
    simp [val, txt]
  · rw [if_neg (by omega), if_pos (by omega), txt_block _ _ (drop_ne hn h (by omega)) hx9, dg_pad (Lib.nDigits x) 9 x (ndig_9 hx9).2 (Lib.lt_pow_nDigits x)]
theorem tops_all {N n : Nat} (hn : n = (lim N).length) (h : 0 < n) : tops (lim N) n n = txt N := by
  unfold tops
  rw [if_neg (by omega), Nat.sub_self, List.drop_zero, val_lim]
theorem by_ubs (x : Nat) : by_ (ubs x) = dg (Lib.nDigits x) x := by_bs _ fun y hy => by have := dg_mem hy; omega
theorem by_zeros (c : Nat) : by_ (bs (List.replicate c 48)) = List.replicate c 48 := by_bs _ fun y hy => by have := List.eq_of_mem_replicate hy; omega

set_option maxRecDepth 100000 in
set_option maxHeartbeats 8000000 in
theorem format_pos (B : Nat) (v : Value) (z : Int) (w : World) (hv : IsInt B w v z) (hz : z.natAbs < top300) (h0 : 0 < z) (hpow : Pow w) : Calls Tryd.prog 7 #[v] w fun e w' => e = .returned (.tuple #[.string (bs (itxt z)), .int .i64 0]) ∧ Up w w' := by
  have hv0 := hv
  obtain ⟨s, A, n, c, rfl, Hs, Hn, hl, hc, _⟩ := hv
  obtain rfl : s = false := by rw [Hs.out]; simp; omega
  obtain ⟨N, hN⟩ : ∃ N, N = z.natAbs := ⟨_, rfl⟩
  have HT : Hid (itxt z = ([] : List Nat) ++ txt N) := by
    show itxt z = _
    unfold itxt
    rw [if_neg (by omega), if_neg (by omega), hN]; rfl
  have hN0 : N ≠ 0 := by omega
  rw [← hN] at Hn hl
  have hn34 : n ≤ 34 := by rw [Hn.out]; exact len_of_top (by rw [hN]; exact hz)
  have hn0 : 0 < n := by rw [Hn.out]; exact Nat.pos_of_ne_zero fun h => hN0 (lim_len_zero.1 h)
  have HZ := hide hz
  obtain ⟨w0, hw0⟩ : ∃ w0, w0 = (w.alloc (.cells #[.bool false, .slice A n c] 25)) := ⟨_, rfl⟩
  have hb1 : Bk w0 (w.heap.size) 25 #[.bool false, .slice A n c] := by
    have := Bk.new w 25 #[.bool false, .slice A n c]
    rw [hw0]; simpa using this
  have hup0 : Up w w0 := by rw [hw0]; exact (Up.refl w).alloc _
  have hsz0 : w0.heap.size = w.heap.size + 1 := by rw [hw0]; simp
  have Hw0 := hide hw0
  have HN := hide hN
  clear hw0 hN hz h0 hN0
  have e1a := hb1.cell (i := 0) rfl
  have e1b := hb1.cell (i := 1) rfl
  refine (callsIn_wide (n := 5)).1 ?_
  refine callsIn_of_wp_marks Tryd.func7 rfl trivial ?_ rfl
  simp only [Tryd.ntmps7, List.size_toArray, List.length_cons, List.length_nil, Nat.reduceAdd, Nat.reduceSub, Array.replicate_succ, Array.replicate_zero, List.push_toArray, List.append_toArray, List.nil_append, List.cons_append]
  gi_wp2_with fail
  rw [← Hw0.out]
  refine ⟨trivial, ?_⟩
  refine ((callsIn_wide (n := _)).2 (validI_any _ _ z w0 (hv0.up hup0) HZ.out)).mono ?_
  rintro e w1 ⟨rfl, hup1⟩
  have hb2 := hb1.up hup1
  have e2a := hb2.cell (i := 0) rfl
  have e2b := hb2.cell (i := 1) rfl
  have hq0 : ((n : Int) == 0) = false := by rw [beq_eq_false_iff_ne]; omega
  obtain ⟨w2, hw2⟩ : ∃ w2, w2 = w1.alloc (.cells #[.pointer none, .slice none 0 0] 50) := ⟨_, rfl⟩
  obtain ⟨b, hb⟩ : ∃ b, b = w1.heap.size := ⟨_, rfl⟩
  have hbld : Bld b [] w2 := by rw [hw2, hb]; exact Bld.new w1
  have hup2 : Up w w2 := by rw [hw2]; exact (hup0.trans hup1).alloc _
  have hwb : w.heap.size < b := by rw [hb]; have := hup1.size; omega
  have hb3 : Bk w2 w.heap.size 25 #[.bool false, .slice A n c] := by rw [hw2]; exact hb2.alloc _
  have e3a : (w1.alloc (.cells #[.pointer none, .slice none 0 0] 50)).cell? ⟨w.heap.size, 0, none⟩ = some (.bool false) := by rw [← hw2]; exact hb3.cell (i := 0) rfl
  have e3b : (w1.alloc (.cells #[.pointer none, .slice none 0 0] 50)).cell? ⟨w.heap.size, 1, none⟩ = some (.slice A n c) := by rw [← hw2]; exact hb3.cell (i := 1) rfl
  have Hw2 := hide hw2
  have Hb := hide hb
  clear hw2 hb
  gi_wp2_with fail
  rw [← Hw2.out, ← Hb.out]
  refine ⟨trivial, ?_⟩
  refine (back_in Fence.wide (5 - 1) trivial rfl _ _ _ _).mono ?_
  rintro e w' ⟨rfl, rfl⟩
  gi_wp2
  have bS : Bk (w2.alloc (.cells #[.slice A n c] 22)) w2.heap.size 22 #[.slice A n c] := Bk.new w2 _ _
  have hB0 : Up w (w2.alloc (.cells #[.slice A n c] 22)) := hup2.alloc _
  have hbl2 : b < w2.heap.size := hbld.lt
  have hA : 0 < n → ∀ ad, A = some ad → ad.block < b := fun h ad e => by
    obtain ⟨ad', e', hb, _⟩ := hl.at_ (k := 0) (by rw [← Hn.out]; exact h)
    rw [e] at e'
    cases e'
    omega
  refine wpIn_rangeFunc_ownG rfl (by omega) (gf := 45) (lb := #[.pointer (some ⟨w2.heap.size, 0, none⟩)]) rfl trivial (enters_of Tryd.func45 (by kernel_rfl) rfl)
    (back_stops Fence.wide (5 - 1) trivial rfl (by omega) w2.heap.size b 1000000000 A c n (lim N) (dig_getD (dig_lim N)) (by omega) Hn _ (by simp) (bS.cell (i := 0) rfl) (hl.up hB0) hA)
    (fun h k => ⟨h.1.trans k.1, fun v hv => k.2 v (h.2 v hv)⟩)
    (fun W l o o' hle h h1 h2 => ⟨belowK_b (w := w2.alloc (.cells #[.slice A n c] 22)) (by simp; omega) W l o o' hle h h1 h2, fun v hv => (World.cell?_of_block (w := W) ((grownBy_putObj' W l o').block _ (World.block_lt_of_cell? W _ hv) (fun e => by cases e; simp at hle; omega))).trans hv⟩)
    (Below.refl _ _) (fun _ => rfl)
    (fun pre W => (∃ l : List Nat, Bld b l W ∧ Bk W w.heap.size 25 #[.bool false, .slice A n c] ∧ Bk W w2.heap.size 22 #[.slice A n c] ∧ l.length ≤ 1 + 9 * pre.length ∧ (pre.map (fun y => y.1) = raws (lim N) n pre.length → pre.length ≤ n → l = ([] : List Nat) ++ tops (lim N) n pre.length)) ∧ Below w.heap.size w W)
    (fun _ _ _ => False)
    (OwnFrom.and (Own.from (fun s X Y row hs hg hr => by obtain ⟨l, h1, h2, h3, h4, h5⟩ := hs; exact ⟨l, h1.kept hg hr, (grownBy_keeps_cells hg hr h2 rfl).trans h2, (grownBy_keeps_cells hg hr h3 rfl).trans h3, h4, h5⟩) _) (ownFrom_below (Nat.le_refl _) (by simp; omega)))
    (fun _ _ _ _ _ hs _ _ => hs)
    ⟨⟨[], hbld.up ((Up.refl w2).alloc _), hb3.alloc _, bS, Nat.zero_le _, fun _ _ => rfl⟩, hB0⟩
    (fun y => { tmps := #[.agg #[.bool false, .slice A n c], .pointer (some ⟨w.heap.size, 0, none⟩), .string ⟨#[]⟩, .int .i64 0, .pointer (some ⟨b, 0, none⟩), .int .i64 (y.1.1 : Nat), .int .u32 (y.1.2 : Nat), undef, .agg #[.bool false, .slice A n c], .bool true, .bool false, .pointer (some ⟨w.heap.size, 1, none⟩), .slice A n c, .int .i64 (n : Nat), .bool false, .pointer (some ⟨w.heap.size, 0, none⟩), .bool false, undef, .pointer (some ⟨w.heap.size, 1, none⟩), .slice A n c, .func (.func 45) #[] #[.pointer (some ⟨w2.heap.size, 0, none⟩)], .int .i64 (y.1.1 : Nat), .int .u32 (y.1.2 : Nat), undef, undef, undef, undef, undef, undef, undef, undef, undef, undef, undef, undef, undef, undef, undef, undef, undef], defers := [] }) ?assign ?body ?done ?stop
  case assign =>
    intro l y W K hK
    gi_wp2
    exact hK
  case body =>
    rintro l pre y W ⟨⟨t, ht, hk1, hk2, hlt, hm⟩, hB⟩ hlen
    have HM := hide hm
    clear hm
    obtain ⟨x, hxe⟩ : ∃ x, x = y.1.2 := ⟨_, rfl⟩
    obtain ⟨i, hie⟩ : ∃ i, i = y.1.1 := ⟨_, rfl⟩
    have hx9 : x < 1000000000 := by rw [hxe]; exact y.2.2
    have hin : i < n := by rw [hie]; exact y.2.1
    rw [← hxe, ← hie]
    have hbW := Nat.le_of_lt ht.lt
    have hF := fmt_any x W hx9 (hpow.up hB)
    obtain ⟨U, hU⟩ : ∃ U, U = ubs x := ⟨_, rfl⟩
    rw [← hU] at hF
    obtain ⟨D, hD⟩ : ∃ D, D = U.size := ⟨_, rfl⟩
    have hD9 : 1 ≤ D ∧ D ≤ 9 := by rw [hD, hU, ubs_size]; exact ndig_9 hx9
    obtain ⟨D1, D9⟩ := hD9
    have HX := hide hxe
    have HI := hide hie
    have HU := hide hU
    have HD := hide hD
    clear hxe hie hU
    gi_wp2_with fail
    refine ⟨trivial, ?_⟩
    refine (CallsIn.inRound l ((callsIn_wide (n := _)).2 hF)).mono ?_
    rintro e W1 ⟨rfl, hu1⟩
    have s1 := Stp.of_up hu1 hbW
    have kA := s1.bk hk1 (by omega) (by decide)
    have cA := kA.cell (i := 1) rfl
    have hfin : ∀ (t' Z : List Nat) (W' : World), Stp b W W' → Bld b t' W' → t' = t ++ Z → Z.length ≤ 9 → Hid (Z = if i < n - 1 then List.replicate (9 - Lib.nDigits x) 48 ++ dg (Lib.nDigits x) x else dg (Lib.nDigits x) x) →
        KeepsFrom (w2.alloc (.cells #[.slice A n c] 22)).heap.size W W' ∧ KeepBox b w2.heap.size W W' ∧ ((∃ l : List Nat, Bld b l W' ∧ Bk W' w.heap.size 25 #[.bool false, .slice A n c] ∧ Bk W' w2.heap.size 22 #[.slice A n c] ∧ l.length ≤ 1 + 9 * (pre ++ [y]).length ∧ ((pre ++ [y]).map (fun y => y.1) = raws (lim N) n (pre ++ [y]).length → (pre ++ [y]).length ≤ n → l = ([] : List Nat) ++ tops (lim N) n (pre ++ [y]).length)) ∧ Below w.heap.size w W') := by
      intro t' Z W' hs hb' ht' hZ HZ'
      have kS := hs.bk hk2 (by omega) (by decide)
      have kA := hs.bk hk1 (by omega) (by decide)
      have hpl : (pre ++ [y]).length = pre.length + 1 := by simp
      refine ⟨hs.from (by simp; omega), ⟨hs.1, fun v hv => ?_⟩, ⟨t', hb', kA, kS, ?_, fun h1 h2 => ?_⟩, hs.up hB (by omega)⟩
      · rw [hk2.cell (i := 0) rfl] at hv
        rw [kS.cell (i := 0) rfl]; exact hv
      · rw [ht', List.length_append, hpl]; omega
      · obtain ⟨_, h4, h5⟩ := raws_snoc h1
        rw [ht', hpl, HM.out h4 (by omega), HZ'.out]
        have hi : i = n - 1 - pre.length := by rw [HI.out, h5]
        have hx : x = (lim N).getD (n - 1 - pre.length) 0 := by rw [HX.out, h5]
        rw [tops_step Hn.out hlen hx hx9, hi, List.append_assoc]
    have HFIN := hide hfin
    clear hfin
    have hbU : by_ U = dg (Lib.nDigits x) x := by rw [HU.out, by_ubs]
    have hUn : Lib.nDigits x = U.size := by rw [HU.out, ubs_size]
    have HBU := hide hbU
    have HUN := hide hUn
    clear hbU hUn
    have ht1 := ht.up hu1
    have htl : t.length ≤ 1000 := by omega
    by_cases hlast : i < n - 1
    · have hsub : IntKind.i64.wrap ((n : Int) - 1) = ((n - 1 : Nat) : Int) := by rw [IntKind.wrap_i64]; omega
      gi_wp2_with fail
      obtain ⟨cz, hcz⟩ : ∃ cz : Nat, cz = 9 - U.size := ⟨_, rfl⟩
      have hUD := HD.out
      have hcz9 : cz ≤ 9 := by omega
      have hczU : cz + U.size = 9 := by omega
      rw [show (9 : Int) - (U.size : Int) = (cz : Int) by omega]
      refine ⟨trivial, ?_⟩
      refine (CallsIn.inRound l ((callsIn_wide (n := _)).2 (rep_any cz W1 (by omega)))).mono ?_
      rintro e W2 ⟨rfl, hu2⟩
      obtain ⟨Z, hZ⟩ : ∃ Z, Z = bs (List.replicate cz 48) := ⟨_, rfl⟩
      rw [← hZ]
      have hZs : Z.size = cz := by rw [hZ, bs_size, List.length_replicate]
      have hZb : by_ Z = List.replicate cz 48 := by rw [hZ, by_zeros]
      have ht2 := ht1.up hu2
      have s2 := s1.trans (Stp.of_up hu2 (Nat.le_of_lt ht1.lt))
      have hW1 := wstr_any b t Z W2 ht2 (by omega) (by omega) (Nat.le_of_lt ht2.lt)
      have HZb := hide hZb
      have Hcz := hide hcz
      clear hZ hZb hcz
      gi_wp2_with fail
      refine ⟨trivial, ?_⟩
      refine (CallsIn.inRound l ((callsIn_wide (n := _)).2 hW1)).mono ?_
      rintro e W3 ⟨rfl, ht3, hb3', ho3⟩
      have s3 : Stp b W W3 := s2.trans ⟨hb3', ho3⟩
      have hZl : (t ++ by_ Z).length ≤ 2000 := by rw [List.length_append, by_len]; omega
      have hW2 := wstr_any b (t ++ by_ Z) U W3 ht3 (by omega) (by omega) (Nat.le_of_lt ht3.lt)
      clear hZl
      gi_wp2_with fail
      refine ⟨trivial, ?_⟩
      refine (CallsIn.inRound l ((callsIn_wide (n := _)).2 hW2)).mono ?_
      rintro e W4 ⟨rfl, ht4, hb4', ho4⟩
      have s4 : Stp b W W4 := s3.trans ⟨hb4', ho4⟩
      gi_wp2_with fail
      refine HFIN.out _ (by_ Z ++ by_ U) _ s4 ht4 (by rw [List.append_assoc]) (by rw [List.length_append, by_len, by_len]; omega) ?_
      show _ = _
      rw [if_pos hlast, HZb.out, HBU.out, Hcz.out, HUN.out]
    · have hW2 := wstr_any b t U W1 ht1 (by omega) (by have := HD.out; omega) (Nat.le_of_lt ht1.lt)
      gi_wp2_with fail
      refine ⟨trivial, ?_⟩
      refine (CallsIn.inRound l ((callsIn_wide (n := _)).2 hW2)).mono ?_
      rintro e W4 ⟨rfl, ht4, hb4', ho4⟩
      have s4 : Stp b W W4 := s1.trans ⟨hb4', ho4⟩
      gi_wp2_with fail
      refine HFIN.out _ (by_ U) _ s4 ht4 rfl (by rw [by_len]; have := HD.out; omega) ?_
      show _ = _
      rw [if_neg hlast, HBU.out]
  case done =>
    rintro Dd ys W hD hys ⟨⟨t, ht, hk1, hk2, hlt, hm⟩, hB⟩ hK
    have hlen : ys.length = n := by have := congrArg List.length hys; rw [raws_len] at this; simpa using this
    have htt : Hid (t = ([] : List Nat) ++ txt N) := by show _ = _; rw [hm (by rw [hlen]; exact hys) (by omega), hlen, tops_all Hn.out hn0]
    have hS := bstr_any b t W ht (by rw [htt.out, ← HT.out]; exact itxt_lt) (Nat.le_of_lt ht.lt)
    rw [htt.out, ← HT.out] at hS
    clear hm hys hlt
    have hDd : b < Dd := by simp at hD; omega
    gi_wp2_with fail
    refine ⟨trivial, ?_⟩
    refine ((callsIn_wide (n := _)).2 hS).mono ?_
    rintro e W4 ⟨rfl, hb4', ho4⟩
    have hK4 : W4.heap[Dd]? = some (.deferred (some [])) := ho4 Dd _ hK (fun e => by have := Option.some.inj e; omega) (fun c fz e => by cases e)
    have hup4 : Up w W4 := (show Stp b W W4 from ⟨hb4', ho4⟩).up hB (by omega)
    gi_wp2_with fail
    refine ⟨by simp, .inl ⟨_, _, rfl, run_takeDeferred hK4, ?_⟩⟩
    refine ⟨.tuple #[.string (bs (itxt z)), .int .i64 0], ?_, rfl, Below.trans hup4 (belowK_b (w := w) (Nat.le_refl _) W4 Dd _ _ (by omega) hK4 rfl rfl)⟩
    simp [results, Tryd.results7, go_sem]
  case stop =>
    intro _ _ _ _ _ _ h
    exact h.elim
end Go.Proofs.YtijcijdgpeolhaaDoor
/- The program's Format of negative integers; of every one. -/
namespace Go.Proofs.YtijcijdgpeolhaaDoor
open Go.RowKit Go.Shelf
attribute [local go_sem] Oper.semAt_some

set_option maxRecDepth 100000 in
set_option maxHeartbeats 8000000 in
theorem format_neg (B : Nat) (v : Value) (z : Int) (w : World) (hv : IsInt B w v z) (hz : z.natAbs < top300) (h0 : z < 0) (hpow : Pow w) : Calls Tryd.prog 7 #[v] w fun e w' => e = .returned (.tuple #[.string (bs (itxt z)), .int .i64 0]) ∧ Up w w' := by
  have hv0 := hv
  obtain ⟨s, A, n, c, rfl, Hs, Hn, hl, hc, _⟩ := hv
  obtain rfl : s = true := by rw [Hs.out]; simp; omega
  obtain ⟨N, hN⟩ : ∃ N, N = z.natAbs := ⟨_, rfl⟩
  have HT : Hid (itxt z = [45] ++ txt N) := by
    show itxt z = _
    unfold itxt
    rw [if_neg (by omega), if_pos h0, hN]; rfl
  have hN0 : N ≠ 0 := by omega
  rw [← hN] at Hn hl
  have hn34 : n ≤ 34 := by rw [Hn.out]; exact len_of_top (by rw [hN]; exact hz)
  have hn0 : 0 < n := by rw [Hn.out]; exact Nat.pos_of_ne_zero fun h => hN0 (lim_len_zero.1 h)
  have HZ := hide hz
  obtain ⟨w0, hw0⟩ : ∃ w0, w0 = (w.alloc (.cells #[.bool true, .slice A n c] 25)) := ⟨_, rfl⟩
  have hb1 : Bk w0 (w.heap.size) 25 #[.bool true, .slice A n c] := by
    have := Bk.new w 25 #[.bool true, .slice A n c]
    rw [hw0]; simpa using this
  have hup0 : Up w w0 := by rw [hw0]; exact (Up.refl w).alloc _
  have hsz0 : w0.heap.size = w.heap.size + 1 := by rw [hw0]; simp
  have Hw0 := hide hw0
  have HN := hide hN
  clear hw0 hN hz h0 hN0
  have e1a := hb1.cell (i := 0) rfl
  have e1b := hb1.cell (i := 1) rfl
  refine (callsIn_wide (n := 5)).1 ?_
  refine callsIn_of_wp_marks Tryd.func7 rfl trivial ?_ rfl
  simp only [Tryd.ntmps7, List.size_toArray, List.length_cons, List.length_nil, Nat.reduceAdd, Nat.reduceSub, Array.replicate_succ, Array.replicate_zero, List.push_toArray, List.append_toArray, List.nil_append, List.cons_append]
  gi_wp2_with fail
  rw [← Hw0.out]
  refine ⟨trivial, ?_⟩
  refine ((callsIn_wide (n := _)).2 (validI_any _ _ z w0 (hv0.up hup0) HZ.out)).mono ?_
  rintro e w1 ⟨rfl, hup1⟩
  have hb2 := hb1.up hup1
  have e2a := hb2.cell (i := 0) rfl
  have e2b := hb2.cell (i := 1) rfl
  have hq0 : ((n : Int) == 0) = false := by rw [beq_eq_false_iff_ne]; omega
  obtain ⟨w2, hw2⟩ : ∃ w2, w2 = w1.alloc (.cells #[.pointer none, .slice none 0 0] 50) := ⟨_, rfl⟩
  obtain ⟨b, hb⟩ : ∃ b, b = w1.heap.size := ⟨_, rfl⟩
  have hbld : Bld b [] w2 := by rw [hw2, hb]; exact Bld.new w1
  have hup2 : Up w w2 := by rw [hw2]; exact (hup0.trans hup1).alloc _
  have hwb : w.heap.size < b := by rw [hb]; have := hup1.size; omega
  have hb3 : Bk w2 w.heap.size 25 #[.bool true, .slice A n c] := by rw [hw2]; exact hb2.alloc _
  have e3a : (w1.alloc (.cells #[.pointer none, .slice none 0 0] 50)).cell? ⟨w.heap.size, 0, none⟩ = some (.bool true) := by rw [← hw2]; exact hb3.cell (i := 0) rfl
  have e3b : (w1.alloc (.cells #[.pointer none, .slice none 0 0] 50)).cell? ⟨w.heap.size, 1, none⟩ = some (.slice A n c) := by rw [← hw2]; exact hb3.cell (i := 1) rfl
  have Hw2 := hide hw2
  have Hb := hide hb
  clear hw2 hb
  gi_wp2_with fail
  rw [← Hw2.out, ← Hb.out]
  refine ⟨trivial, ?_⟩
  refine ((callsIn_wide (n := _)).2 (wbyte_any b [] 45 w2 hbld (by simp) (Nat.le_of_lt hbld.lt))).mono ?_
  rintro e w3 ⟨rfl, hbld3, hq3, ho3⟩
  have s3 : Stp b w2 w3 := ⟨hq3, ho3⟩
  have hb4 := s3.bk hb3 (by omega) (by decide)
  have e4a := hb4.cell (i := 0) rfl
  have e4b := hb4.cell (i := 1) rfl
  have hup3 := s3.up hup2 (by omega)
  gi_wp2_with fail
  refine ⟨trivial, ?_⟩
  refine (back_in Fence.wide (5 - 1) trivial rfl _ _ _ _).mono ?_
  rintro e w' ⟨rfl, rfl⟩
  gi_wp2
  have bS : Bk (w3.alloc (.cells #[.slice A n c] 22)) w3.heap.size 22 #[.slice A n c] := Bk.new w3 _ _
  have hB0 : Up w (w3.alloc (.cells #[.slice A n c] 22)) := hup3.alloc _
  have hbl2 : b < w3.heap.size := hbld3.lt
  have hA : 0 < n → ∀ ad, A = some ad → ad.block < b := fun h ad e => by
    obtain ⟨ad', e', hb, _⟩ := hl.at_ (k := 0) (by rw [← Hn.out]; exact h)
    rw [e] at e'
    cases e'
    omega
  refine wpIn_rangeFunc_ownG rfl (by omega) (gf := 45) (lb := #[.pointer (some ⟨w3.heap.size, 0, none⟩)]) rfl trivial (enters_of Tryd.func45 (by kernel_rfl) rfl)
    (back_stops Fence.wide (5 - 1) trivial rfl (by omega) w3.heap.size b 1000000000 A c n (lim N) (dig_getD (dig_lim N)) (by omega) Hn _ (by simp) (bS.cell (i := 0) rfl) (hl.up hB0) hA)
    (fun h k => ⟨h.1.trans k.1, fun v hv => k.2 v (h.2 v hv)⟩)
    (fun W l o o' hle h h1 h2 => ⟨belowK_b (w := w3.alloc (.cells #[.slice A n c] 22)) (by simp; omega) W l o o' hle h h1 h2, fun v hv => (World.cell?_of_block (w := W) ((grownBy_putObj' W l o').block _ (World.block_lt_of_cell? W _ hv) (fun e => by cases e; simp at hle; omega))).trans hv⟩)
    (Below.refl _ _) (fun _ => rfl)
    (fun pre W => (∃ l : List Nat, Bld b l W ∧ Bk W w.heap.size 25 #[.bool true, .slice A n c] ∧ Bk W w3.heap.size 22 #[.slice A n c] ∧ l.length ≤ 1 + 9 * pre.length ∧ (pre.map (fun y => y.1) = raws (lim N) n pre.length → pre.length ≤ n → l = [45] ++ tops (lim N) n pre.length)) ∧ Below w.heap.size w W)
    (fun _ _ _ => False)
    (OwnFrom.and (Own.from (fun s X Y row hs hg hr => by obtain ⟨l, h1, h2, h3, h4, h5⟩ := hs; exact ⟨l, h1.kept hg hr, (grownBy_keeps_cells hg hr h2 rfl).trans h2, (grownBy_keeps_cells hg hr h3 rfl).trans h3, h4, h5⟩) _) (ownFrom_below (Nat.le_refl _) (by simp; omega)))
    (fun _ _ _ _ _ hs _ _ => hs)
    ⟨⟨[45], hbld3.up ((Up.refl w3).alloc _), hb4.alloc _, bS, (by simp), fun _ _ => rfl⟩, hB0⟩
    (fun y => { tmps := #[.agg #[.bool true, .slice A n c], .pointer (some ⟨w.heap.size, 0, none⟩), .string ⟨#[]⟩, .int .i64 0, .pointer (some ⟨b, 0, none⟩), .int .i64 (y.1.1 : Nat), .int .u32 (y.1.2 : Nat), undef, .agg #[.bool true, .slice A n c], .bool true, .bool false, .pointer (some ⟨w.heap.size, 1, none⟩), .slice A n c, .int .i64 (n : Nat), .bool false, .pointer (some ⟨w.heap.size, 0, none⟩), .bool true, .nilIface, .pointer (some ⟨w.heap.size, 1, none⟩), .slice A n c, .func (.func 45) #[] #[.pointer (some ⟨w3.heap.size, 0, none⟩)], .int .i64 (y.1.1 : Nat), .int .u32 (y.1.2 : Nat), undef, undef, undef, undef, undef, undef, undef, undef, undef, undef, undef, undef, undef, undef, undef, undef, undef], defers := [] }) ?assign ?body ?done ?stop
  case assign =>
    intro l y W K hK
    gi_wp2
    exact hK
  case body =>
    rintro l pre y W ⟨⟨t, ht, hk1, hk2, hlt, hm⟩, hB⟩ hlen
    have HM := hide hm
    clear hm
    obtain ⟨x, hxe⟩ : ∃ x, x = y.1.2 := ⟨_, rfl⟩
    obtain ⟨i, hie⟩ : ∃ i, i = y.1.1 := ⟨_, rfl⟩
    have hx9 : x < 1000000000 := by rw [hxe]; exact y.2.2
    have hin : i < n := by rw [hie]; exact y.2.1
    rw [← hxe, ← hie]
    have hbW := Nat.le_of_lt ht.lt
    have hF := fmt_any x W hx9 (hpow.up hB)
    obtain ⟨U, hU⟩ : ∃ U, U = ubs x := ⟨_, rfl⟩
    rw [← hU] at hF
    obtain ⟨D, hD⟩ : ∃ D, D = U.size := ⟨_, rfl⟩
    have hD9 : 1 ≤ D ∧ D ≤ 9 := by rw [hD, hU, ubs_size]; exact ndig_9 hx9
    obtain ⟨D1, D9⟩ := hD9
    have HX := hide hxe
    have HI := hide hie
    have HU := hide hU
    have HD := hide hD
    clear hxe hie hU
    gi_wp2_with fail
    refine ⟨trivial, ?_⟩
    refine (CallsIn.inRound l ((callsIn_wide (n := _)).2 hF)).mono ?_
    rintro e W1 ⟨rfl, hu1⟩
    have s1 := Stp.of_up hu1 hbW
    have kA := s1.bk hk1 (by omega) (by decide)
    have cA := kA.cell (i := 1) rfl
    have hfin : ∀ (t' Z : List Nat) (W' : World), Stp b W W' → Bld b t' W' → t' = t ++ Z → Z.length ≤ 9 → Hid (Z = if i < n - 1 then List.replicate (9 - Lib.nDigits x) 48 ++ dg (Lib.nDigits x) x else dg (Lib.nDigits x) x) →
        KeepsFrom (w3.alloc (.cells #[.slice A n c] 22)).heap.size W W' ∧ KeepBox b w3.heap.size W W' ∧ ((∃ l : List Nat, Bld b l W' ∧ Bk W' w.heap.size 25 #[.bool true, .slice A n c] ∧ Bk W' w3.heap.size 22 #[.slice A n c] ∧ l.length ≤ 1 + 9 * (pre ++ [y]).length ∧ ((pre ++ [y]).map (fun y => y.1) = raws (lim N) n (pre ++ [y]).length → (pre ++ [y]).length ≤ n → l = [45] ++ tops (lim N) n (pre ++ [y]).length)) ∧ Below w.heap.size w W') := by
      intro t' Z W' hs hb' ht' hZ HZ'
      have kS := hs.bk hk2 (by omega) (by decide)
      have kA := hs.bk hk1 (by omega) (by decide)
      have hpl : (pre ++ [y]).length = pre.length + 1 := by simp
      refine ⟨hs.from (by simp; omega), ⟨hs.1, fun v hv => ?_⟩, ⟨t', hb', kA, kS, ?_, fun h1 h2 => ?_⟩, hs.up hB (by omega)⟩
      · rw [hk2.cell (i := 0) rfl] at hv
        rw [kS.cell (i := 0) rfl]; exact hv
      · rw [ht', List.length_append, hpl]; omega
      · obtain ⟨_, h4, h5⟩ := raws_snoc h1
        rw [ht', hpl, HM.out h4 (by omega), HZ'.out]
        have hi : i = n - 1 - pre.length := by rw [HI.out, h5]
        have hx : x = (lim N).getD (n - 1 - pre.length) 0 := by rw [HX.out, h5]
        rw [tops_step Hn.out hlen hx hx9, hi, List.append_assoc]
    have HFIN := hide hfin
    clear hfin
    have hbU : by_ U = dg (Lib.nDigits x) x := by rw [HU.out, by_ubs]
    have hUn : Lib.nDigits x = U.size := by rw [HU.out, ubs_size]
    have HBU := hide hbU
    have HUN := hide hUn
    clear hbU hUn
    have ht1 := ht.up hu1
    have htl : t.length ≤ 1000 := by omega
    by_cases hlast : i < n - 1
    · have hsub : IntKind.i64.wrap ((n : Int) - 1) = ((n - 1 : Nat) : Int) := by rw [IntKind.wrap_i64]; omega
      gi_wp2_with fail
      obtain ⟨cz, hcz⟩ : ∃ cz : Nat, cz = 9 - U.size := ⟨_, rfl⟩
      have hUD := HD.out
      have hcz9 : cz ≤ 9 := by omega
      have hczU : cz + U.size = 9 := by omega
      rw [show (9 : Int) - (U.size : Int) = (cz : Int) by omega]
      refine ⟨trivial, ?_⟩
      refine (CallsIn.inRound l ((callsIn_wide (n := _)).2 (rep_any cz W1 (by omega)))).mono ?_
      rintro e W2 ⟨rfl, hu2⟩
      obtain ⟨Z, hZ⟩ : ∃ Z, Z = bs (List.replicate cz 48) := ⟨_, rfl⟩
      rw [← hZ]
      have hZs : Z.size = cz := by rw [hZ, bs_size, List.length_replicate]
      have hZb : by_ Z = List.replicate cz 48 := by rw [hZ, by_zeros]
      have ht2 := ht1.up hu2
      have s2 := s1.trans (Stp.of_up hu2 (Nat.le_of_lt ht1.lt))
      have hW1 := wstr_any b t Z W2 ht2 (by omega) (by omega) (Nat.le_of_lt ht2.lt)
      have HZb := hide hZb
      have Hcz := hide hcz
      clear hZ hZb hcz
      gi_wp2_with fail
      refine ⟨trivial, ?_⟩
      refine (CallsIn.inRound l ((callsIn_wide (n := _)).2 hW1)).mono ?_
      rintro e W3 ⟨rfl, ht3, hb3', ho3⟩
      have s3 : Stp b W W3 := s2.trans ⟨hb3', ho3⟩
      have hZl : (t ++ by_ Z).length ≤ 2000 := by rw [List.length_append, by_len]; omega
      have hW2 := wstr_any b (t ++ by_ Z) U W3 ht3 (by omega) (by omega) (Nat.le_of_lt ht3.lt)
      clear hZl
      gi_wp2_with fail
      refine ⟨trivial, ?_⟩
      refine (CallsIn.inRound l ((callsIn_wide (n := _)).2 hW2)).mono ?_
      rintro e W4 ⟨rfl, ht4, hb4', ho4⟩
      have s4 : Stp b W W4 := s3.trans ⟨hb4', ho4⟩
      gi_wp2_with fail
      refine HFIN.out _ (by_ Z ++ by_ U) _ s4 ht4 (by rw [List.append_assoc]) (by rw [List.length_append, by_len, by_len]; omega) ?_
      show _ = _
      rw [if_pos hlast, HZb.out, HBU.out, Hcz.out, HUN.out]
    · have hW2 := wstr_any b t U W1 ht1 (by omega) (by have := HD.out; omega) (Nat.le_of_lt ht1.lt)
      gi_wp2_with fail
      refine ⟨trivial, ?_⟩
      refine (CallsIn.inRound l ((callsIn_wide (n := _)).2 hW2)).mono ?_
      rintro e W4 ⟨rfl, ht4, hb4', ho4⟩
      have s4 : Stp b W W4 := s1.trans ⟨hb4', ho4⟩
      gi_wp2_with fail
      refine HFIN.out _ (by_ U) _ s4 ht4 rfl (by rw [by_len]; have := HD.out; omega) ?_
      show _ = _
      rw [if_neg hlast, HBU.out]
  case done =>
    rintro Dd ys W hD hys ⟨⟨t, ht, hk1, hk2, hlt, hm⟩, hB⟩ hK
    have hlen : ys.length = n := by have := congrArg List.length hys; rw [raws_len] at this; simpa using this
    have htt : Hid (t = [45] ++ txt N) := by show _ = _; rw [hm (by rw [hlen]; exact hys) (by omega), hlen, tops_all Hn.out hn0]
    have hS := bstr_any b t W ht (by rw [htt.out, ← HT.out]; exact itxt_lt) (Nat.le_of_lt ht.lt)
    rw [htt.out, ← HT.out] at hS
    clear hm hys hlt
    have hDd : b < Dd := by simp at hD; omega
    gi_wp2_with fail
    refine ⟨trivial, ?_⟩
    refine ((callsIn_wide (n := _)).2 hS).mono ?_
    rintro e W4 ⟨rfl, hb4', ho4⟩
    have hK4 : W4.heap[Dd]? = some (.deferred (some [])) := ho4 Dd _ hK (fun e => by have := Option.some.inj e; omega) (fun c fz e => by cases e)
    have hup4 : Up w W4 := (show Stp b W W4 from ⟨hb4', ho4⟩).up hB (by omega)
    gi_wp2_with fail
    refine ⟨by simp, .inl ⟨_, _, rfl, run_takeDeferred hK4, ?_⟩⟩
    refine ⟨.tuple #[.string (bs (itxt z)), .int .i64 0], ?_, rfl, Below.trans hup4 (belowK_b (w := w) (Nat.le_refl _) W4 Dd _ _ (by omega) hK4 rfl rfl)⟩
    simp [results, Tryd.results7, go_sem]
  case stop =>
    intro _ _ _ _ _ _ h
    exact h.elim
end Go.Proofs.YtijcijdgpeolhaaDoor
/- Format of every integer; for every text the law of Parse returns true. -/
namespace Go.Proofs.YtijcijdgpeolhaaDoor
open Go.RowKit

theorem format_zero (B : Nat) (v : Value) (w : World) (hv : IsInt B w v 0) : Calls Tryd.prog 7 #[v] w fun e w' => e = .returned (.tuple #[.string (bs (itxt 0)), .int .i64 0]) ∧ Up w w' := by
  have hv0 := hv
  obtain ⟨s, A, n, c, rfl, Hs, Hn, hl, hc, _⟩ := hv
  obtain rfl : n = 0 := by rw [Hn.out]; simp [lim_zero]
  obtain ⟨w0, hw0⟩ : ∃ w0, w0 = (w.alloc (.cells #[.bool s, .slice A 0 c] 25)) := ⟨_, rfl⟩
  have hb1 : Bk w0 (w.heap.size) 25 #[.bool s, .slice A 0 c] := by
    have := Bk.new w 25 #[.bool s, .slice A 0 c]
    rw [hw0]; simpa using this
  have hup0 : Up w w0 := by rw [hw0]; exact (Up.refl w).alloc _
  have Hw0 := hide hw0
  clear hw0
  have e1a := hb1.cell (i := 0) rfl
  have e1b := hb1.cell (i := 1) rfl
  go_enter Tryd.func7, Tryd.ntmps7
  go_wp2_with fail
  rw [← Hw0.out]
  refine (validI_any _ _ 0 w0 (hv0.up hup0) (by decide +kernel)).mono ?_
  rintro e w1 ⟨rfl, hup1⟩
  have hb2 := hb1.up hup1
  have e2a := hb2.cell (i := 0) rfl
  have e2b := hb2.cell (i := 1) rfl
  go_wp2
  go_ret2
  exact ⟨rfl, hup0.trans hup1⟩
theorem format_any (B : Nat) (v : Value) (z : Int) (w : World) (hv : IsInt B w v z) (hz : z.natAbs < top300) (hpow : Pow w) : Calls Tryd.prog 7 #[v] w fun e w' => e = .returned (.tuple #[.string (bs (itxt z)), .int .i64 0]) ∧ Up w w' := by
  rcases Int.lt_trichotomy z 0 with h | h | h
  · exact format_neg B v z w hv hz h hpow
  · subst h; exact format_zero B v w hv
  · exact format_pos B v z w hv hz h hpow
theorem okS_back {s : ByteArray} (h : okS s = true) : bs (itxt (valS s)) = s ∧ (valS s).natAbs < top300 := by
  cases hn : negB s with
  | false =>
    obtain ⟨h1, h2, h3, h4⟩ := (okS_pos hn).1 h
    have hc : cutS s = s := by unfold cutS; rw [hn]; rfl
    unfold valS
    rw [hc, hn, sgn_abs]
    exact ⟨h4, dvf_top h1 h3⟩
  | true =>
    obtain ⟨h1, h2, h3, h4⟩ := (okS_neg hn rfl).1 h
    have hc : cutS s = s.extract 1 s.size := by unfold cutS; rw [hn]; rfl
    unfold valS
    rw [hc, hn, sgn_abs]
    exact ⟨h4, dvf_top h1 h3⟩
set_option maxRecDepth 100000 in
set_option maxHeartbeats 4000000 in
theorem parseW (s : ByteArray) (w : World) (hpow : Pow w) (_hs : s.size ≤ maxLen) : Calls Tryd.prog 4 #[.string s] w fun e w' => e = .returned (.bool true) ∧ Up w w' := by
  by_cases h400 : s.size ≤ 400
  · go_enter Tryd.func4, Tryd.ntmps4
    go_wp2_with fail
    refine (awake_any _).mono ?_
    rintro e w1 ⟨rfl, hu1⟩
    go_wp2_with fail
    refine (parse_any s _ (by omega)).mono ?_
    rintro e w2 ⟨v2, E2, rfl, hu2, hr2⟩
    cases hok : okS s with
    | true =>
      obtain ⟨hback, hz⟩ := okS_back hok
      obtain ⟨z, hze⟩ : ∃ z, z = valS s := ⟨_, rfl⟩
      rcases hr2 with ⟨_, rfl, hv2⟩ | ⟨h, _⟩
      · rw [← hze] at hv2 hz hback
        have hv20 := hv2
        obtain ⟨s2, A2, n2, c2, rfl, _⟩ := hv2
        go_wp2_with fail
        have hk2 := Bk.new w2 25 #[.bool s2, .slice A2 n2 c2]
        have huA := (hu1.trans hu2).alloc (.cells #[.bool s2, .slice A2 n2 c2] 25)
        have hvA := hv20.up ((Up.refl w2).alloc (.cells #[.bool s2, .slice A2 n2 c2] 25))
        refine (rparse_any s _ (by omega)).mono ?_
        rintro e w3 ⟨v3, E3, rfl, hu3, hr3⟩
        rcases hr3 with ⟨_, rfl, hv3⟩ | ⟨h, _⟩
        · rw [← hze] at hv3
          have hv30 := hv3
          obtain ⟨s3, A3, n3, c3, rfl, _⟩ := hv3
          have hk3 := (hk2.up hu3).alloc (.cells #[.bool s3, .slice A3 n3 c3] 25)
          have hk4 := Bk.new w3 25 #[.bool s3, .slice A3 n3 c3]
          have d1 := hk3.cell (i := 0) rfl
          have d2 := hk3.cell (i := 1) rfl
          have d3 := hk4.cell (i := 0) rfl
          have d4 := hk4.cell (i := 1) rfl
          have huB := (huA.trans hu3).alloc (.cells #[.bool s3, .slice A3 n3 c3] 25)
          have hvB := (hvA.up hu3).up ((Up.refl w3).alloc (.cells #[.bool s3, .slice A3 n3 c3] 25))
          have hvC := hv30.up ((Up.refl w3).alloc (.cells #[.bool s3, .slice A3 n3 c3] 25))
          go_wp2_with fail
          refine (equalI _ _ _ _ z _ hvB hvC hz).mono ?_
          rintro e w5 ⟨rfl, hu5⟩
          have hk5 := hk3.up hu5
          have f1 := hk5.cell (i := 0) rfl
          have f2 := hk5.cell (i := 1) rfl
          go_wp2_with fail
          refine (format_any _ _ z _ (hvB.up hu5) hz (hpow.up (huB.trans hu5))).mono ?_
          rintro e w6 ⟨rfl, hu6⟩
          rw [hback]
          have hk6 := hk5.up hu6
          have g1 := hk6.cell (i := 0) rfl
          have g2 := hk6.cell (i := 1) rfl
          go_wp2_with fail
          refine (validI_any _ _ z _ ((hvB.up hu5).up hu6) hz).mono ?_
          rintro e w7 ⟨rfl, hu7⟩
          go_wp2
          go_ret
          exact ⟨rfl, ((huB.trans hu5).trans hu6).trans hu7⟩
        · rw [hok] at h; cases h
      · rw [hok] at h; cases h
    | false =>
      rcases hr2 with ⟨h, _⟩ | ⟨_, rfl, hv2⟩
      · rw [hok] at h; cases h
      · have hv20 := hv2
        obtain ⟨s2, A2, n2, c2, rfl, _⟩ := hv2
        go_wp2_with fail
        have hk2 := Bk.new w2 25 #[.bool s2, .slice A2 n2 c2]
        have huA := (hu1.trans hu2).alloc (.cells #[.bool s2, .slice A2 n2 c2] 25)
        have hvA := hv20.up ((Up.refl w2).alloc (.cells #[.bool s2, .slice A2 n2 c2] 25))
        refine (rparse_any s _ (by omega)).mono ?_
        rintro e w3 ⟨v3, E3, rfl, hu3, hr3⟩
        rcases hr3 with ⟨h, _⟩ | ⟨_, rfl, hv3⟩
        · rw [hok] at h; cases h
        · have hv30 := hv3
          obtain ⟨s3, A3, n3, c3, rfl, _⟩ := hv3
          have hk3 := (hk2.up hu3).alloc (.cells #[.bool s3, .slice A3 n3 c3] 25)
          have hk4 := Bk.new w3 25 #[.bool s3, .slice A3 n3 c3]
          have d1 := hk3.cell (i := 0) rfl
          have d2 := hk3.cell (i := 1) rfl
          have d3 := hk4.cell (i := 0) rfl
          have d4 := hk4.cell (i := 1) rfl
          have huB := (huA.trans hu3).alloc (.cells #[.bool s3, .slice A3 n3 c3] 25)
          have hvB := (hvA.up hu3).up ((Up.refl w3).alloc (.cells #[.bool s3, .slice A3 n3 c3] 25))
          have hvC := hv30.up ((Up.refl w3).alloc (.cells #[.bool s3, .slice A3 n3 c3] 25))
          go_wp2_with fail
          refine (equalI _ _ _ _ 0 _ hvB hvC (by decide +kernel)).mono ?_
          rintro e w5 ⟨rfl, hu5⟩
          have f1 := (hk3.up hu5).cell (i := 0) rfl
          have f2 := (hk3.up hu5).cell (i := 1) rfl
          have f3 := (hk4.up hu5).cell (i := 0) rfl
          have f4 := (hk4.up hu5).cell (i := 1) rfl
          go_wp2_with fail
          refine (equalI _ _ _ _ 0 _ (hvB.up hu5) (hvC.up hu5) (by decide +kernel)).mono ?_
          rintro e w6 ⟨rfl, hu6⟩
          go_wp2
          go_ret
          exact ⟨rfl, (huB.trans hu5).trans hu6⟩
  · go_enter Tryd.func4, Tryd.ntmps4
    go_wp2_with fail
    refine (awake_any _).mono ?_
    rintro e w1 ⟨rfl, hu1⟩
    go_wp2_with fail
    refine (awake_any _).mono ?_
    rintro e w2 ⟨rfl, hu2⟩
    go_wp2
    go_ret
    exact ⟨rfl, hu1.trans hu2⟩
end Go.Proofs.YtijcijdgpeolhaaDoor
/- The table of powers of ten lies in the world; a world for the witnesses. -/
namespace Go.Proofs.YtijcijdgpeolhaaDoor
open Go.RowKit

open Go.ChangeShapes Go.WideShapes Go.ChangeAt Go.Joins Go.Deep
theorem tabIs_of_reads {P : Program} {W : World} {name : String} {k : IntKind} {zs : List Int} {g : Nat} {t e : TypeId} {n : Nat}
    (hg : P.globalNamed name = some g) (hty : (P.globals[g]?).map (·.type) = some t) (ht : P.underlying t = some (.array n e)) (he : P.underlying e = some (.int k)) (hce : P.cellsOf e = 1) (hct : P.cellsOf t = n)
    (h : Lib.VarReads P W name (Lib.tabData k zs)) : Lib.TabIs P W name k zs := by
  obtain ⟨g', t', cs, fuel, p, hg', ht', hvar, hd⟩ := h
  obtain rfl := Option.some.inj (hg.symm.trans hg')
  obtain rfl := Option.some.inj (hty.symm.trans ht')
  unfold Lib.TabIs
  rw [hvar, ← Lib.cells_of_tab ht he hce hct hd]
def listed : List (String × DataW Unit) := [("math/bits.deBruijn32tab", Rows.laid_math_bits_deBruijn32tab), ("math/bits.deBruijn64tab", Rows.laid_math_bits_deBruijn64tab), ("internal/strconv.uint64pow10", Rows.laid_internal_strconv_uint64pow10)]
theorem zd_pow : (Rows.laid_internal_strconv_uint64pow10 : DataW Unit) = Lib.tabData .u64 Lib.pow10Tab := rfl
theorem pow_of {W : World} (hL : laidMetH Tryd.prog listed W) : Pow W := by
  have h := (laidMetH_iff.1 hL).1
  have h2 : laidMet Tryd.prog listed W := h
  exact tabIs_of_reads (name := "internal/strconv.uint64pow10") (k := .u64) (zs := Lib.pow10Tab) (g := 0) (by kernel_rfl) (by kernel_rfl) Tryd.underlying112 Tryd.underlying58 (by kernel_rfl) (by kernel_rfl) (by rw [← zd_pow]; exact Lib.laidMet.reads h2 (by simp [listed]))

/-- A world for the witnesses: the settled one, the tables holding what their initialisers lay. -/
noncomputable def laidWorld (os : Os) : World :=
  { World.holding Tryd.prog os ⟨#[], #[], []⟩ with heap := ((((World.holding Tryd.prog os ⟨#[], #[], []⟩).heap.modify 2 fun
      | .cells _ t frozen => .cells #[.int .u8 0, .int .u8 1, .int .u8 28, .int .u8 2, .int .u8 29, .int .u8 14, .int .u8 24, .int .u8 3, .int .u8 30, .int .u8 22, .int .u8 20, .int .u8 15, .int .u8 25, .int .u8 17, .int .u8 4, .int .u8 8, .int .u8 31, .int .u8 27, .int .u8 13, .int .u8 23, .int .u8 21, .int .u8 19, .int .u8 16, .int .u8 7, .int .u8 26, .int .u8 12, .int .u8 18, .int .u8 6, .int .u8 11, .int .u8 5, .int .u8 10, .int .u8 9] t frozen
      | o => o).modify 3 fun
      | .cells _ t frozen => .cells #[.int .u8 0, .int .u8 1, .int .u8 56, .int .u8 2, .int .u8 57, .int .u8 49, .int .u8 28, .int .u8 3, .int .u8 61, .int .u8 58, .int .u8 42, .int .u8 50, .int .u8 38, .int .u8 29, .int .u8 17, .int .u8 4, .int .u8 62, .int .u8 47, .int .u8 59, .int .u8 36, .int .u8 45, .int .u8 43, .int .u8 51, .int .u8 22, .int .u8 53, .int .u8 39, .int .u8 33, .int .u8 30, .int .u8 24, .int .u8 18, .int .u8 12, .int .u8 5, .int .u8 63, .int .u8 55, .int .u8 48, .int .u8 27, .int .u8 60, .int .u8 41, .int .u8 37, .int .u8 16, .int .u8 46, .int .u8 35, .int .u8 44, .int .u8 21, .int .u8 52, .int .u8 32, .int .u8 23, .int .u8 11, .int .u8 54, .int .u8 26, .int .u8 40, .int .u8 15, .int .u8 34, .int .u8 20, .int .u8 31, .int .u8 10, .int .u8 25, .int .u8 14, .int .u8 19, .int .u8 9, .int .u8 13, .int .u8 8, .int .u8 7, .int .u8 6] t frozen
      | o => o).modify 0 fun
      | .cells _ t frozen => .cells #[.int .u64 1, .int .u64 10, .int .u64 100, .int .u64 1000, .int .u64 10000, .int .u64 100000, .int .u64 1000000, .int .u64 10000000, .int .u64 100000000, .int .u64 1000000000, .int .u64 10000000000, .int .u64 100000000000, .int .u64 1000000000000, .int .u64 10000000000000, .int .u64 100000000000000, .int .u64 1000000000000000, .int .u64 10000000000000000, .int .u64 100000000000000000, .int .u64 1000000000000000000, .int .u64 10000000000000000000] t frozen
      | o => o) }
end Go.Proofs.YtijcijdgpeolhaaDoor
/- For every string, Parse returns what the reference returns, and Format of its integer is the string again (asked up to 400 bytes, as the law does). The card: the tables that the row lists are tied to the text of the program. -/
namespace Go.Proofs.YtijcijdgpeolhaaDoor
open Go.RowKit

open Go.ChangeShapes Go.WideShapes Go.ChangeAt Go.Joins Go.Deep
set_option maxRecDepth 100000 in
theorem contract_integerParse (H : Type) (enc : TypeId × Value → H) (W : World) (base : Nat) (args : Array Value) (ds gs : List (DataW H)) (before : List MemPlace)
    (hval0 : ∀ (j : Nat) t v, Tryd.f4.params[j]? = some t → args[j]? = some v → Value.okWide Tryd.prog W .any base t v)
    (hW : DataW.Whole enc Tryd.prog Tryd.f4.params.toList Rows.integerParseSpec.vars false W args.toList ds gs before) (hT : Pow W) :
    Calls Tryd.prog 4 args W fun e W' => ∃ v, e = .returned v ∧ Rows.integerParseSpec.post enc Tryd.prog Tryd.f4 false true false false W args v W' := by
  have hval := hval0
  have hW' := hW
  obtain ⟨p, q, hA0, hV, rfl, hfz, hnd⟩ := hW
  have hA : DataW.TrodAll enc Tryd.prog W 0 (fun _ => true) true Tryd.f4.params.toList args.toList ds p := hA0
  rw [Tryd.params4] at hA hval
  obtain ⟨v0, vs0, d0, ds0, p0, q0, hargs, rfl, rfl, h0, r0⟩ := trodAll_cons hA
  obtain ⟨rfl, rfl, rfl⟩ := trodAll_nil r0
  obtain rfl : args = #[v0] := by cases args; simp_all
  obtain ⟨rfl, rfl⟩ := trodVars_none hV
  obtain ⟨a0, rfl, rfl, rfl, w0⟩ := Go.ChangeMaps.open_string Tryd.underlying9 (hval 0 9 v0 rfl rfl) h0
  clear hA0 hval0
  refine (parseW a0 W hT w0).mono fun e W' ⟨he, bel0⟩ => ?_
  have bel : Below W.heap.size W W' := bel0
  subst he
  exact ⟨_, rfl, _, _, _, [], _, [], hW', trodAll_mk1 (shut_bool Tryd.underlying4 _), (trodAll_cons_mk (Go.ChangeMaps.shut_string Tryd.underlying9 w0) trodAll_mk0), rfl, bel.frame _, fun h => by cases h⟩
theorem laid_met_integerParse (os : Os) : laidMet Tryd.prog Rows.integerParseRow.laid ((laidWorld os).forCall (fun _ _ => 0) ⟨#[], #[.string ⟨#[]⟩], []⟩).memory :=
  laidMet_of_run' 8 (by kernel_rfl) (by kernel_rfl)
theorem reads_integerParse (os : Os) {H : Type} (enc : TypeId × Value → H) : ∃ places, DataW.whole enc Tryd.prog ((laidWorld os).forCall (fun _ _ => 0) ⟨#[], #[.string ⟨#[]⟩], []⟩).memory Tryd.f4.params.toList Rows.integerParseSpec.vars false (#[.string ⟨#[]⟩] : Array Value).toList 8 = some ([.lit (.string [])], [], places) :=
  ⟨[], by kernel_rfl⟩
set_option maxRecDepth 100000 in
theorem lifted_integerParse (os : Os) (started : os.Started) (H : Type) (enc : TypeId × Value → H) (F : Stop.Interp) :
    ReturnsInHanded {} Tryd.checked os 4 .any ((OpenSpec.ofChange Rows.integerParseSpec).preRow enc Tryd.prog Tryd.f4 Rows.integerParseRow.domain false Rows.integerParseRow.laid) (((OpenSpec.ofChange Rows.integerParseSpec).at F).post enc Tryd.prog Tryd.f4 false true false false) := by
  obtain ⟨places, hx⟩ := reads_integerParse os enc
  refine returnsInHanded_of_row (C := Tryd.checked) (s := OpenSpec.ofChange Rows.integerParseSpec) ownK started (by kernel_rfl) Tryd.func4
    (witness_row_at (enc := enc) (C := Tryd.checked) false (laidWorld os) #[.string ⟨#[]⟩] rfl (by kernel_rfl) (by kernel_rfl) (by kernel_rfl)
      (OpenSpec.preRow_of_cond 8 hx (by kernel_rfl) (fun k hk => by cases hk) (by kernel_rfl) (laid_met_integerParse os))) ?_
  intro W base args ds gs before hval hW _ _ _ hL _ _
  exact contract_integerParse H enc W base args ds gs before hval hW (pow_of hL)
theorem said_integerParse : Rows.IntegerParseSaid :=
  OpenClaim.holds_of_cond 4 Tryd.f4 rfl rfl rfl rfl rfl rfl rfl ⟨rfl, rfl, rfl, rfl, rfl⟩ rfl rfl rfl rfl rfl (by kernel_rfl) Tryd.func4 (by kernel_rfl)
    (of_decide_eq_true (by kernel_rfl)) (by unfold Func.isWrapper; first | (rw [if_pos (by decide +kernel)]; kernel_rfl) | (rw [if_neg (by decide +kernel)]; exact ⟨rfl, rfl⟩))
    (fun os started H enc _ F => by rw [OpenClaim.pre_eq_preRow]; exact lifted_integerParse os started H enc F)
theorem plain_integerParse (f : FuncId) (fn : Func) (hf : Tryd.pinned.checked.prog.funcNamed "sederunt/sederuntlaw01.IntegerParse" = some f) (hfn : Tryd.pinned.checked.prog.funcs[f]? = some fn) :
    false = Tryd.pinned.checked.prog.looks [] ∧ ∀ (j : Nat) t, fn.params[j]? = some t → Tryd.pinned.checked.prog.wantsStandIn t = false := by
  obtain rfl : f = 4 := Option.some.inj ((show Tryd.prog.funcNamed "sederunt/sederuntlaw01.IntegerParse" = some 4 by kernel_rfl).symm.trans hf) |>.symm
  obtain rfl : fn = Tryd.f4 := (Option.some.inj (Tryd.func4.symm.trans hfn)).symm
  refine ⟨by kernel_rfl, fun j t ht => ?_⟩
  rw [Tryd.params4] at ht
  have h := Array.mem_of_getElem? ht
  obtain rfl : t = 9 := by simpa using h
  exact (show Tryd.prog.wantsStandIn 9 = false by kernel_rfl)
theorem integerParseCard_holds : Rows.IntegerParseCardSaid :=
  Claim7.holds_tied_plain_at .later [] _ _ _ _ said_integerParse (fun _ h => by cases h) (by kernel_rfl) (fun _ h => by cases h) integerParse_row_tie rfl ⟨rfl, rfl⟩ (by kernel_rfl) rfl plain_integerParse (by kernel_rfl)
end Go.Proofs.YtijcijdgpeolhaaDoor
