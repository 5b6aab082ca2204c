/-
  Words for slices of strings: what one reads as; one of the call's own.
-/
import Derived.Test.YtajedohgcepkiaaDoorRows
import Derived.Test.YtajedohgcepkiaaDoorKeep
namespace Go.Proofs.YtajedohgcepkiaaDoor
open Go.RowKit

def strC (L : List ByteArray) : List Value := L.map Value.string
theorem strC_len (L : List ByteArray) : (strC L).length = L.length := by unfold strC; simp
theorem strC_snoc (L : List ByteArray) (s : ByteArray) : strC (L ++ [s]) = strC L ++ [.string s] := by unfold strC; simp
theorem strC_one (L : List ByteArray) : ∀ u ∈ strC L, u.oneCell' = true := by
  intro u hu
  unfold strC at hu
  obtain ⟨_, _, rfl⟩ := List.mem_map.1 hu
  rfl
theorem strC_get (L : List ByteArray) (j : Nat) : (strC L)[j]? = L[j]?.map Value.string := by unfold strC; rw [List.getElem?_map]
theorem str_info : (Tryd.prog.info? 9).map (fun i => (i.zero, i.size, i.bytes)) = some (some (.string ⟨#[]⟩), 1, 16) := by kernel_rfl

/-- A slice of strings of the call's own. -/
abbrev OwnS (w : World) (b : Nat) (v : Value) (L : List ByteArray) : Prop := w.ownsRow b 9 1 v L.length (strC L)

/-- A slice that reads as a list of strings. -/
def Strs (w : World) (v : Value) (L : List ByteArray) : Prop :=
  ∃ A c, v = .slice A L.length c ∧ L.length ≤ c ∧ c ≤ maxLen ∧ ∀ j s, L[j]? = some s → ∃ a, A = some a ∧ w.cell? (a.add j) = some (.string s)
theorem Strs.below {w w' : World} {v : Value} {L : List ByteArray} (h : Strs w v L) (hb : Below w.heap.size w w') : Strs w' v L := by
  obtain ⟨A, c, h1, h2, h3, h4⟩ := h
  refine ⟨A, c, h1, h2, h3, fun j s hs => ?_⟩
  obtain ⟨a, ha, hc⟩ := h4 j s hs
  exact ⟨a, ha, (hb.cell (World.block_lt_of_cell? w _ hc)).trans hc⟩
theorem OwnS.strs {w : World} {b : Nat} {v : Value} {L : List ByteArray} (h : OwnS w b v L) : Strs w v L := by
  have h' := h
  rcases owns_cases h with ⟨rfl, hn⟩ | ⟨g, cap, rfl, h4, h5, h6, h7⟩
  · have : L = [] := List.length_eq_zero_iff.1 hn
    subst this
    exact ⟨none, 0, rfl, Nat.le_refl _, Nat.zero_le _, fun j s hs => by simp at hs⟩
  · refine ⟨some ⟨g, 0, none⟩, cap, rfl, h6, h7, fun j s hs => ⟨_, rfl, ?_⟩⟩
    have hj : j < L.length := (List.getElem?_eq_some_iff.1 hs).1
    rw [add_zero_off, h'.cellAt j (by omega), strC_get, hs]
    rfl

end Go.Proofs.YtajedohgcepkiaaDoor
