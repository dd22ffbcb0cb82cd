/- Strings as lists of bytes: what the walks say of them. -/
import Derived.Test.YtfdlmgjjpcdkpaaDoorBase3
import Derived.Laws.IdiomStrings
import Derived.Laws.DeepStrings4
import Derived.Lib.AppendStr
namespace Go.Proofs.YtfdlmgjjpcdkpaaDoor
open Go.RowKit

/-- The bytes of a string. -/
def by_ (s : ByteArray) : List Nat := s.data.toList.map UInt8.toNat
theorem by_len (s : ByteArray) : (by_ s).length = s.size := by unfold by_; rw [List.length_map, Array.length_toList]; rfl
theorem by_lt (s : ByteArray) : ∀ x ∈ by_ s, x < 256 := by
  intro x hx
  simp only [by_, List.mem_map] at hx
  obtain ⟨b, _, rfl⟩ := hx
  exact UInt8.toNat_lt b
theorem by_get (s : ByteArray) (k : Nat) (h : k < s.size) : (s[k]'h).toNat = (by_ s).getD k 0 := by
  have h2 : k < s.data.toList.length := by rw [Array.length_toList]; exact h
  have e : (s[k]'h) = s.data.toList[k]'h2 := rfl
  rw [e]
  unfold by_
  rw [List.getD, List.getElem?_map, List.getElem?_eq_getElem h2]
  rfl
/-- The string of some bytes. -/
def bs (l : List Nat) : ByteArray := ⟨(l.map UInt8.ofNat).toArray⟩
theorem bs_size (l : List Nat) : (bs l).size = l.length := by
  show (l.map UInt8.ofNat).toArray.size = _
  simp
theorem by_bs (l : List Nat) (h : ∀ x ∈ l, x < 256) : by_ (bs l) = l := by
  unfold by_ bs
  simp only [List.map_map]
  conv => rhs; rw [← List.map_id l]
  refine List.map_congr_left fun x hx => ?_
  show (UInt8.ofNat x).toNat = x
  exact UInt8.toNat_ofNat_of_lt' (h x hx)
theorem bs_by (s : ByteArray) : bs (by_ s) = s := by
  unfold by_ bs
  rw [List.map_map]
  have : (UInt8.ofNat ∘ UInt8.toNat) = id := by funext b; simp
  rw [this, List.map_id]
theorem bs_append (a b : List Nat) : bs a ++ bs b = bs (a ++ b) := by
  unfold bs
  rw [ByteArray.mk_append_mk]
  simp
theorem by_append (a b : ByteArray) : by_ (a ++ b) = by_ a ++ by_ b := by
  obtain ⟨⟨a⟩⟩ := a
  obtain ⟨⟨b⟩⟩ := b
  unfold by_
  rw [ByteArray.mk_append_mk]
  simp
theorem by_inj {s t : ByteArray} (h : by_ s = by_ t) : s = t := by rw [← bs_by s, ← bs_by t, h]
theorem by_extract (s : ByteArray) (i j : Nat) : by_ (s.extract i j) = ((by_ s).drop i).take (j - i) := by
  obtain ⟨⟨s⟩⟩ := s
  unfold by_
  rw [ByteArray.extract_mk]
  simp [List.map_take, List.map_drop]
theorem strCells_by (s : ByteArray) : Lib.strCells s = u8s (by_ s) := by
  unfold Lib.strCells u8s by_
  rw [List.map_map]
  rfl
theorem u8s_getD {l : List Nat} {j : Nat} (h : j < l.length) : (u8s l)[j]? = some (.int .u8 ((l.getD j 0 : Nat) : Int)) := u8s_get (by simp [List.getD, h])
set_option maxRecDepth 100000 in
/-- A row of bytes as a string. -/
theorem run_str (w : World) (A : Option Addr) (n c : Nat) (l : List Nat) (hA : Lim w A l) (hn : l.length = n) (hb : ∀ x ∈ l, x < 256) :
    (convert 85 9 (.slice A n c)).run Tryd.prog w = .ok (.string (bs l)) w := by
  subst hn
  rcases hA with rfl | ⟨ad, rfl, _, hc⟩
  · rcases A with _ | ad
    · rw [run_convert_bytes_string w _ _ 5 none _ c Tryd.underlying85 Tryd.underlying5 Tryd.underlying9]
      rfl
    · exact run_convert_bytes_back w _ _ 5 ad c [] Tryd.underlying85 Tryd.underlying5 Tryd.underlying9 (fun j hj => by simp at hj)
  · have h := run_convert_bytes_back w _ _ 5 ad c (l.map UInt8.ofNat) Tryd.underlying85 Tryd.underlying5 Tryd.underlying9 (fun j hj => by
      simp only [List.length_map] at hj
      rw [hc j l[j] (List.getElem?_eq_getElem hj)]
      simp only [List.getElem_map]
      have := UInt8.toNat_ofNat_of_lt' (h := hb l[j] (List.getElem_mem hj))
      rw [this])
    rw [List.length_map] at h
    exact h
set_option maxRecDepth 100000 in
/-- append of a string's bytes. -/
theorem wp_apps {w : World} {ops : Array Oper} {rest : List Oper} {o : Oper} {a : Act} {Q : Exit → Act → World → Prop} (hgd : o.guard = none) (sl x : Operand)
    (ho : o.op = .call { callee := .builtin .append, args := #[sl, x], argTypes := #[85, 9] })
    (base : Nat) (v : Value) (n : Nat) (xs : List Nat) (hs : a.eval sl = v) (hown : Own w base v n xs) (s : ByteArray) (hx : a.eval x = .string s) (hb : n + s.size ≤ 1000000) (hbase : base ≤ w.heap.size)
    (h : ∀ v' w', Own w' base v' (n + s.size) (xs ++ by_ s) → w.grownBy w' v.ownBlock → wpList Tryd.prog ops Q rest (a.put o.dst v') w') : wpList Tryd.prog ops Q (o :: rest) a w := by
  obtain ⟨i0, hi, hz0, hz1, hz2⟩ := info_parts Tryd.info5
  refine Lib.wpList_append_own_string w hgd sl x _ _ ho base 5 i0 Tryd.underlying85 Tryd.underlying9 hi hz0 hz1 hz2 v n (u8s xs) hs hown s hx (by unfold maxLen; omega) (by omega) hbase fun v' w' h1 h2 _ => h v' w' ?_ h2
  unfold Own
  rw [u8s_append, ← strCells_by]
  exact h1
end Go.Proofs.YtfdlmgjjpcdkpaaDoor
