/-
  Walks: a []string that is laid where it is wanted.
-/
import Derived.Test.YtajedohgcepkiaaDoorRows
import Derived.Test.YtajedohgcepkiaaDoorStrs
namespace Go.Proofs.YtajedohgcepkiaaDoor
open Go.RowKit

theorem Strs.built (w : World) (t : TypeId) (L : List ByteArray) (hl : L.length ≤ maxLen) : Strs (w.alloc (.cells (strC L).toArray t)) (.slice (some ⟨w.heap.size, 0, none⟩) L.length L.length) L := by
  refine ⟨_, _, rfl, Nat.le_refl _, hl, fun j x hx => ⟨_, rfl, ?_⟩⟩
  have hb : Box (w.alloc (.cells (strC L).toArray t)) w.heap.size t (strC L).toArray := Box.new w t _
  rw [add_zero_off, hb.cell, List.getElem?_toArray, strC_get, hx]
  rfl

theorem strs_drew {w : World} {v : Value} {L : List ByteArray} (h : Strs w v L) : Strs w.drew v L := h
theorem one_alloc (w : World) (o : Obj) : Below w.heap.size w (w.alloc o) := (Below.refl _ _).alloc (Nat.le_refl _) _

end Go.Proofs.YtajedohgcepkiaaDoor
