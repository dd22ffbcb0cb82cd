/- The tables that the rows list lie in the world; a world for the witnesses. -/
import Derived.Test.YtdnhecgjfanakaaDoorT
import Derived.Test.YtdnhecgjfanakaaDoorCards
import Derived.Test.YtdnhecgjfanakaaDoorTie
import Derived.ProofKit
import Derived.OpenShut
import Derived.ChangeOld
import Derived.Below
import Derived.Lib.SmallJoins
import Derived.Deep.DeepHandedRow
import Derived.Lib.LaidTab
import Derived.Lib.LaidU8
import Derived.LaidSub
namespace Go.Proofs.YtdnhecgjfanakaaDoor
open Go.RowKit

open Go.ChangeShapes Go.WideShapes Go.ChangeAt Go.Joins Go.Deep
theorem ownK : ownKnob Tryd.prog.godebug = none := by kernel_rfl
theorem laidOut : laidOutB Tryd.prog = true := by kernel_rfl
theorem tabIs_of_reads {P : Program} {W : World} {name : String} {k : IntKind} {zs : List Int} {g : Nat} {t e : TypeId} {n : Nat}
    (hg : P.globalNamed name = some g) (hty : (P.globals[g]?).map (·.type) = some t) (ht : P.underlying t = some (.array n e)) (he : P.underlying e = some (.int k)) (hce : P.cellsOf e = 1) (hct : P.cellsOf t = n)
    (h : Lib.VarReads P W name (Lib.tabData k zs)) : Lib.TabIs P W name k zs := by
  obtain ⟨g', t', cs, fuel, p, hg', ht', hvar, hd⟩ := h
  obtain rfl := Option.some.inj (hg.symm.trans hg')
  obtain rfl := Option.some.inj (hty.symm.trans ht')
  unfold Lib.TabIs
  rw [hvar, ← Lib.cells_of_tab ht he hce hct hd]
def z_squareRoots : List Int := [1779033703, 3144134277, 1013904242, 2773480762, 1359893119, 2600822924, 528734635, 1541459225]
theorem zd_squareRoots : (Rows.laid_sederunt_digest_squareRoots : DataW Unit) = Lib.tabData .u32 z_squareRoots := rfl
theorem zs_squareRoots : ∀ i, i < 8 → z_squareRoots.getD i 0 = ((startSt.list.getD i 0 : Nat) : Int) := by decide +kernel
def z_cubeRoots : List Int := [1116352408, 1899447441, 3049323471, 3921009573, 961987163, 1508970993, 2453635748, 2870763221, 3624381080, 310598401, 607225278, 1426881987, 1925078388, 2162078206, 2614888103, 3248222580, 3835390401, 4022224774, 264347078, 604807628, 770255983, 1249150122, 1555081692, 1996064986, 2554220882, 2821834349, 2952996808, 3210313671, 3336571891, 3584528711, 113926993, 338241895, 666307205, 773529912, 1294757372, 1396182291, 1695183700, 1986661051, 2177026350, 2456956037, 2730485921, 2820302411, 3259730800, 3345764771, 3516065817, 3600352804, 4094571909, 275423344, 430227734, 506948616, 659060556, 883997877, 958139571, 1322822218, 1537002063, 1747873779, 1955562222, 2024104815, 2227730452, 2361852424, 2428436474, 2756734187, 3204031479, 3329325298]
theorem zd_cubeRoots : (Rows.laid_sederunt_digest_cubeRoots : DataW Unit) = Lib.tabData .u32 z_cubeRoots := rfl
theorem zs_cubeRoots : ∀ i, i < 64 → z_cubeRoots.getD i 0 = ((cubes.getD i 0 : Nat) : Int) := by decide +kernel
def z_halfBytes : List Int := [0, 498536548, 997073096, 651767980, 1994146192, 1802195444, 1303535960, 1342533948, 3988292384, 4027552580, 3604390888, 3412177804, 2607071920, 2262029012, 2685067896, 3183342108]
theorem zd_halfBytes : (Rows.laid_sederunt_digest_halfBytes : DataW Unit) = Lib.tabData .u32 z_halfBytes := rfl
theorem zs_halfBytes : ∀ i, i < 16 → z_halfBytes.getD i 0 = ((shn 4 i : Nat) : Int) := by decide +kernel
def listed : List (String × DataW Unit) := [("sederunt/digest.squareRoots", Rows.laid_sederunt_digest_squareRoots), ("sederunt/digest.cubeRoots", Rows.laid_sederunt_digest_cubeRoots), ("sederunt/digest.halfBytes", Rows.laid_sederunt_digest_halfBytes)]
theorem tabs_of {W : World} (hL : laidMetH Tryd.prog listed W) : Tabs W := by
  have h := (laidMetH_iff.1 hL).1
  have h2 : laidMet Tryd.prog listed W := h
  have t_squareRoots := tabIs_of_reads (name := "sederunt/digest.squareRoots") (k := .u32) (zs := z_squareRoots) (g := 0) (by kernel_rfl) (by kernel_rfl) Tryd.underlying40 Tryd.underlying31 (by kernel_rfl) (by kernel_rfl) (by rw [← zd_squareRoots]; exact Lib.laidMet.reads h2 (by simp [listed]))
  have l_squareRoots : z_squareRoots.length = 8 := rfl
  have t_cubeRoots := tabIs_of_reads (name := "sederunt/digest.cubeRoots") (k := .u32) (zs := z_cubeRoots) (g := 2) (by kernel_rfl) (by kernel_rfl) Tryd.underlying51 Tryd.underlying31 (by kernel_rfl) (by kernel_rfl) (by rw [← zd_cubeRoots]; exact Lib.laidMet.reads h2 (by simp [listed]))
  have l_cubeRoots : z_cubeRoots.length = 64 := rfl
  have t_halfBytes := tabIs_of_reads (name := "sederunt/digest.halfBytes") (k := .u32) (zs := z_halfBytes) (g := 1) (by kernel_rfl) (by kernel_rfl) Tryd.underlying50 Tryd.underlying31 (by kernel_rfl) (by kernel_rfl) (by rw [← zd_halfBytes]; exact Lib.laidMet.reads h2 (by simp [listed]))
  have l_halfBytes : z_halfBytes.length = 16 := rfl
  exact ⟨fun i hi => by rw [← zs_halfBytes i hi]; exact t_halfBytes.cell (by kernel_rfl) i (by rw [l_halfBytes]; exact hi), fun i hi => by rw [← zs_cubeRoots i hi]; exact t_cubeRoots.cell (by kernel_rfl) i (by rw [l_cubeRoots]; exact hi), fun i hi => by rw [← zs_squareRoots i hi]; exact t_squareRoots.cell (by kernel_rfl) i (by rw [l_squareRoots]; exact hi)⟩

/-- A world for the witnesses: the settled one, the tables holding what their initialisers lay. -/
noncomputable def laidWorld (os : Os) : World :=
  { World.holding Tryd.prog os ⟨#[], #[], []⟩ with heap := ((((World.holding Tryd.prog os ⟨#[], #[], []⟩).heap.modify 0 fun
      | .cells _ t frozen => .cells #[.int .u32 1779033703, .int .u32 3144134277, .int .u32 1013904242, .int .u32 2773480762, .int .u32 1359893119, .int .u32 2600822924, .int .u32 528734635, .int .u32 1541459225] t frozen
      | o => o).modify 2 fun
      | .cells _ t frozen => .cells #[.int .u32 1116352408, .int .u32 1899447441, .int .u32 3049323471, .int .u32 3921009573, .int .u32 961987163, .int .u32 1508970993, .int .u32 2453635748, .int .u32 2870763221, .int .u32 3624381080, .int .u32 310598401, .int .u32 607225278, .int .u32 1426881987, .int .u32 1925078388, .int .u32 2162078206, .int .u32 2614888103, .int .u32 3248222580, .int .u32 3835390401, .int .u32 4022224774, .int .u32 264347078, .int .u32 604807628, .int .u32 770255983, .int .u32 1249150122, .int .u32 1555081692, .int .u32 1996064986, .int .u32 2554220882, .int .u32 2821834349, .int .u32 2952996808, .int .u32 3210313671, .int .u32 3336571891, .int .u32 3584528711, .int .u32 113926993, .int .u32 338241895, .int .u32 666307205, .int .u32 773529912, .int .u32 1294757372, .int .u32 1396182291, .int .u32 1695183700, .int .u32 1986661051, .int .u32 2177026350, .int .u32 2456956037, .int .u32 2730485921, .int .u32 2820302411, .int .u32 3259730800, .int .u32 3345764771, .int .u32 3516065817, .int .u32 3600352804, .int .u32 4094571909, .int .u32 275423344, .int .u32 430227734, .int .u32 506948616, .int .u32 659060556, .int .u32 883997877, .int .u32 958139571, .int .u32 1322822218, .int .u32 1537002063, .int .u32 1747873779, .int .u32 1955562222, .int .u32 2024104815, .int .u32 2227730452, .int .u32 2361852424, .int .u32 2428436474, .int .u32 2756734187, .int .u32 3204031479, .int .u32 3329325298] t frozen
      | o => o).modify 1 fun
      | .cells _ t frozen => .cells #[.int .u32 0, .int .u32 498536548, .int .u32 997073096, .int .u32 651767980, .int .u32 1994146192, .int .u32 1802195444, .int .u32 1303535960, .int .u32 1342533948, .int .u32 3988292384, .int .u32 4027552580, .int .u32 3604390888, .int .u32 3412177804, .int .u32 2607071920, .int .u32 2262029012, .int .u32 2685067896, .int .u32 3183342108] t frozen
      | o => o) }
end Go.Proofs.YtdnhecgjfanakaaDoor
