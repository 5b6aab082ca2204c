/-
  Words for tables: a slice of slices of strings.
-/
import Derived.Test.YtajedohgcepkiaaDoorRows
import Derived.Test.YtajedohgcepkiaaDoorSame
namespace Go.Proofs.YtajedohgcepkiaaDoor
open Go.RowKit

/-- A slice of slices that reads as a table. -/
def Tbl (w : World) (v : Value) (T : List (List ByteArray)) : Prop :=
  ∃ A c, v = .slice A T.length c ∧ T.length ≤ c ∧ c ≤ maxLen ∧ ∀ j L, T[j]? = some L → ∃ a r, A = some a ∧ w.cell? (a.add j) = some r ∧ Strs w r L
theorem Tbl.below {w w' : World} {v : Value} {T : List (List ByteArray)} (h : Tbl w v T) (hb : Below w.heap.size w w') : Tbl w' v T := by
  obtain ⟨A, c, h1, h2, h3, h4⟩ := h
  refine ⟨A, c, h1, h2, h3, fun j L hL => ?_⟩
  obtain ⟨a, r, ha, hc, hs⟩ := h4 j L hL
  exact ⟨a, r, ha, (hb.cell (World.block_lt_of_cell? w _ hc)).trans hc, hs.below hb⟩

theorem tab_ext_upto {T U : List (List ByteArray)} (hl : T.length = U.length) (h : ∀ j, j < T.length → T[j]? = U[j]?) : T = U := by
  apply List.ext_getElem?
  intro j
  by_cases hj : j < T.length
  · exact h j hj
  · rw [List.getElem?_eq_none (by omega), List.getElem?_eq_none (by omega)]

end Go.Proofs.YtajedohgcepkiaaDoor
