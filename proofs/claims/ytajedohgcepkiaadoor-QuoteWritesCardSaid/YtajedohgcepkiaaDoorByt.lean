/-
  Words for texts: the byte at a place, and when two texts are one.
-/
import Derived.Test.YtajedohgcepkiaaDoorBase
import Derived.Deep.AppendSrc
namespace Go.Proofs.YtajedohgcepkiaaDoor
open Go.RowKit

/-- The byte at a place of a text; 0 behind its end. -/
def byt (s : ByteArray) (i : Nat) : Int := if h : i < s.size then ((s[i]'h).toNat : Int) else 0
theorem byt_eq (s : ByteArray) (i : Nat) (h : i < s.size) : (((s[i]'h).toNat : Nat) : Int) = byt s i := by unfold byt; rw [dif_pos h]
theorem byt_range (s : ByteArray) (i : Nat) : 0 ≤ byt s i ∧ byt s i ≤ 255 := by
  unfold byt
  split
  · rename_i h
    have := s[i].toNat_lt
    omega
  · omega
theorem byt_out (s : ByteArray) (i : Nat) (h : s.size ≤ i) : byt s i = 0 := by unfold byt; rw [dif_neg (by omega)]

theorem byt_list (s : ByteArray) (i : Nat) : byt s i = ((s.data.toList[i]?.map (fun b => (b.toNat : Int))).getD 0) := by
  unfold byt
  split
  · rename_i h
    have h' : i < s.data.toList.length := by rw [Array.length_toList]; exact h
    rw [List.getElem?_eq_getElem h']
    rfl
  · rename_i h
    have h' : s.data.toList.length ≤ i := by rw [Array.length_toList]; exact Nat.le_of_not_lt h
    rw [List.getElem?_eq_none h']
    rfl

theorem byt_extract (s : ByteArray) (k j i : Nat) : byt (s.extract k j) i = if k + i < j then byt s (k + i) else 0 := by
  by_cases h1 : k + i < j
  · rw [if_pos h1]
    by_cases h2 : k + i < s.size
    · have h3 : i < (s.extract k j).size := by rw [ByteArray.size_extract]; omega
      unfold byt
      rw [dif_pos h3, dif_pos h2]
      rw [ByteArray.getElem_extract]
    · rw [byt_out s _ (by omega), byt_out _ i (by rw [ByteArray.size_extract]; omega)]
  · rw [if_neg h1, byt_out _ i (by rw [ByteArray.size_extract]; omega)]

theorem byt_append (s t : ByteArray) (i : Nat) : byt (s ++ t) i = if i < s.size then byt s i else byt t (i - s.size) := by
  rw [byt_list, byt_list, byt_list, ByteArray.data_append, Array.toList_append, List.getElem?_append, Array.length_toList]
  show Option.getD (Option.map _ (if i < s.size then _ else _)) 0 = _
  split <;> rfl

theorem byt_one (x : UInt8) : byt ⟨#[x]⟩ 0 = x.toNat := rfl

theorem byt_inj {a b : ByteArray} (hs : a.size = b.size) (h : ∀ i, i < a.size → byt a i = byt b i) : a = b := by
  apply ByteArray.ext
  apply Array.ext
  · exact hs
  · intro i h1 h2
    have h1' : i < a.size := h1
    have h2' : i < b.size := h2
    have := h i h1'
    rw [← byt_eq a i h1', ← byt_eq b i h2'] at this
    apply UInt8.toNat_inj.1
    exact Int.ofNat.inj this

theorem append_assoc (a b c : ByteArray) : a ++ b ++ c = a ++ (b ++ c) := by
  apply ByteArray.ext
  rw [ByteArray.data_append, ByteArray.data_append, ByteArray.data_append, ByteArray.data_append, Array.append_assoc]
theorem append_none (a : ByteArray) : a ++ ⟨#[]⟩ = a := by
  apply ByteArray.ext
  rw [ByteArray.data_append, Array.append_empty]
theorem none_append (a : ByteArray) : ⟨#[]⟩ ++ a = a := by
  apply ByteArray.ext
  rw [ByteArray.data_append, Array.empty_append]
theorem size_none (a : ByteArray) (h : a.size = 0) : a = ⟨#[]⟩ := byt_inj h (fun i hi => by omega)

/-- The cells of a text. -/
def cellsOf (s : ByteArray) : List Value := (List.range s.size).map fun i => Value.int .u8 (byt s i)
theorem cellsOf_len (s : ByteArray) : (cellsOf s).length = s.size := by unfold cellsOf; simp
theorem cellsOf_at (s : ByteArray) (j : Nat) (u : Value) (h : (cellsOf s)[j]? = some u) : j < s.size ∧ u = .int .u8 (byt s j) := by
  have hj : j < (cellsOf s).length := (List.getElem?_eq_some_iff.1 h).1
  rw [cellsOf_len] at hj
  unfold cellsOf at h
  rw [List.getElem?_map, List.getElem?_range hj] at h
  simp at h
  exact ⟨hj, h.symm⟩
theorem cellsOf_get (s : ByteArray) (j : Nat) (h : j < s.size) : (cellsOf s)[j]? = some (.int .u8 (byt s j)) := by
  unfold cellsOf
  rw [List.getElem?_map, List.getElem?_range h]
  rfl
theorem cellsOf_one (s : ByteArray) : ∀ u ∈ cellsOf s, u.oneCell' = true := by
  intro u hu
  unfold cellsOf at hu
  obtain ⟨_, _, rfl⟩ := List.mem_map.1 hu
  rfl
theorem cellsOf_bytes (s : ByteArray) : byteCells s = cellsOf s := by
  apply List.ext_getElem?
  intro j
  unfold byteCells
  rw [List.getElem?_map]
  by_cases h : j < s.size
  · rw [cellsOf_get s j h, List.getElem?_eq_getElem (by rw [Array.length_toList]; exact h)]
    simp only [Option.map_some]
    rw [← byt_eq s j h]
    rfl
  · rw [List.getElem?_eq_none (by rw [Array.length_toList]; exact Nat.le_of_not_lt h), List.getElem?_eq_none (by rw [cellsOf_len]; omega)]
    rfl

end Go.Proofs.YtajedohgcepkiaaDoor
