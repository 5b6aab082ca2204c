/-
  Walks: the document's example.
-/
import Derived.Test.YtmfhnmdgcjlnpaaRows
import Derived.Test.YtmfhnmdgcjlnpaaCtS
import Derived.Test.YtmfhnmdgcjlnpaaCtR
import Derived.Test.YtmfhnmdgcjlnpaaSame
import Derived.Lib.Hide
namespace Go.Proofs.Ytmfhnmdgcjlnpaa
open Go.RowKit

theorem Strs.built (w : World) (t : TypeId) (L : List ByteArray) (hl : L.length ≤ maxLen) : Strs (w.alloc (.cells (strC L).toArray t)) (.slice (some ⟨w.heap.size, 0, none⟩) L.length L.length) L := by
  refine ⟨_, _, rfl, Nat.le_refl _, hl, fun j x hx => ⟨_, rfl, ?_⟩⟩
  have hb : Box (w.alloc (.cells (strC L).toArray t)) w.heap.size t (strC L).toArray := Box.new w t _
  rw [add_zero_off, hb.cell, List.getElem?_toArray, strC_get, hx]
  rfl

def abcd : ByteArray := ⟨#[97, 98, 99, 100]⟩
def exA : List ByteArray := [⟨#[97]⟩, ⟨#[98, 99]⟩, ⟨#[]⟩, ⟨#[100]⟩]
def exB : List ByteArray := [⟨#[97]⟩, ⟨#[98, 99]⟩, ⟨#[100]⟩]
theorem exA_eq : cutAt abcd (heldS abcd [3, 1, 3]) = exA := by
  have e : ([3, 1, 3] : List Int).mergeSort (fun x y => decide (x ≤ y)) = [1, 3, 3] :=
    sorted_perm (sort_sorted _) (by simp) ((List.mergeSort_perm _ _).trans (by decide))
  have e2 : heldS abcd [3, 1, 3] = [1, 3, 3] := by unfold heldS; rw [e]; decide
  rw [e2]
  rfl
theorem exB_eq : ByL abcd [1, 2] exB := by
  refine .inr ⟨?_, 3, by kernel_rfl, by kernel_rfl⟩
  rintro (h | h)
  · revert h; decide
  · exact h 1 (by simp) (by decide)

set_option maxHeartbeats 2000000 in
theorem awake_any (w : World) : Calls Try.prog 8 #[] w (Gives (.bool true) w) := by
  apply Gives.of
  have HA := Lib.hid (fun W => at_any abcd _ [3, 1, 3] (W.alloc (.cells (intC [3, 1, 3]).toArray 3)) (Ints.built W _ _ (by unfold maxLen; simp)) (by decide) (by simp))
  have HB := Lib.hid (fun W => by_any abcd _ [1, 2] (W.alloc (.cells (intC [1, 2]).toArray 3)) (Ints.built W _ _ (by unfold maxLen; simp)) (by decide) (by simp))
  go_enter Try.func8, Try.ntmps8
  go_wp2_with (first
    | (go_at_call 9; refine (HA.out w).mono ?_; rintro e w1 ⟨v1, rfl, ho1, hb1⟩; rw [exA_eq] at ho1; have HB1 := Lib.hid (below_next ((Below.refl w.heap.size w).alloc (Nat.le_refl _) (.cells (intC [3, 1, 3]).toArray 3)) (Nat.le_refl _) hb1); have HS1 := Lib.hid (same_any v1 _ exA exA (w1.alloc (.cells (strC exA).toArray 9)) (ho1.strs.below ((Below.refl _ _).alloc (Nat.le_refl _) _)) (Strs.built w1 _ exA (by unfold maxLen; decide))); clear ho1 hb1)
    | (go_at_call 10; refine HS1.out.mono ?_; rintro e w2 ⟨rfl, hb2⟩; have HB2 := Lib.hid (below_next (HB1.out.alloc HB1.out.size (.cells (strC exA).toArray 9)) (Nat.le_refl _) hb2); clear hb2 HS1)
    | (go_at_call 14; refine (HB.out w2).mono ?_; rintro e w3 ⟨v3, rfl, L3, ho3, hy3, hb3⟩; obtain rfl := hy3.unique exB_eq; have HB3 := Lib.hid (below_next (HB2.out.alloc HB2.out.size (.cells (intC [1, 2]).toArray 3)) (Nat.le_refl _) hb3); have HS3 := Lib.hid (same_any v3 _ exB exB (w3.alloc (.cells (strC exB).toArray 9)) (ho3.strs.below ((Below.refl _ _).alloc (Nat.le_refl _) _)) (Strs.built w3 _ exB (by unfold maxLen; decide))); clear ho3 hb3 hy3)
    | (go_at_call 10; refine HS3.out.mono ?_; rintro e w4 ⟨rfl, hb4⟩; have HB4 := Lib.hid (below_next (HB3.out.alloc HB3.out.size (.cells (strC exB).toArray 9)) (Nat.le_refl _) hb4); clear hb4))
  go_ret
  exact ⟨rfl, HB4.out⟩

end Go.Proofs.Ytmfhnmdgcjlnpaa
