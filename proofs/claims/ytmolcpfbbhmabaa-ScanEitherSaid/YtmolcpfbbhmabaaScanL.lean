/-
  Walks: the document's example on the events.
-/
import Derived.Test.YtmolcpfbbhmabaaRows
import Derived.Test.YtmolcpfbbhmabaaScanD
namespace Go.Proofs.Ytmolcpfbbhmabaa
open Go.RowKit

theorem owns_slice {w : World} {b : Nat} {e : TypeId} {size n : Nat} {v : Value} {xs : List Value} (h : w.ownsRow b e size v n xs) (hn : 0 < n) :
    ∃ g cap, v = .slice (some ⟨g, 0, none⟩) n cap ∧ b ≤ g ∧ g < w.heap.size ∧ n ≤ cap ∧ cap ≤ 9223372036854775807 := by
  rcases h.2 with ⟨_, h2⟩ | ⟨g, cap, cur, rfl, h4, h5, h6, h7, r⟩
  · omega
  · exact ⟨g, cap, rfl, h4, (Array.getElem?_eq_some_iff.1 h5).1, h6, by unfold maxLen at h7; omega⟩
theorem owns_len {w : World} {b : Nat} {e : TypeId} {size n : Nat} {v : Value} {xs : List Value} (h : w.ownsRow b e size v n xs) : ∃ A cap, v = .slice A n cap ∧ n ≤ cap ∧ cap ≤ 9223372036854775807 := by
  rcases h.2 with ⟨rfl, rfl⟩ | ⟨g, cap, cur, rfl, h4, h5, h6, h7, r⟩
  · exact ⟨none, 0, rfl, Nat.le_refl _, by omega⟩
  · exact ⟨_, cap, rfl, h6, by unfold maxLen at h7; omega⟩

theorem ex_says {k kind at_ : Nat} (h : RunSays 44 34 1 ⟨#[97, 10]⟩ k kind at_) : k = 3 ∧ kind = 0 ∧ at_ = 0 := by
  obtain ⟨hk, hto, ⟨h1, h2, _⟩ | ⟨rfl, rfl, rfl⟩⟩ := h
  · exfalso
    have h3 : k ≤ 2 := h1
    have key : ∀ j : Fin 3, (atV 44 34 1 ⟨#[97, 10]⟩ j.val).er = 0 := by decide +kernel
    exact h2 (key ⟨k, by omega⟩)
  · exact ⟨rfl, rfl, rfl⟩
theorem ex_cells : evsC (evs 44 34 1 ⟨#[97, 10]⟩ 3) = [.bool true, .bool true, .bool false, .bool false, .bool false, .int .u8 97, .bool false, .bool false, .bool false, .bool true, .bool true, .int .u8 0, .bool false, .bool false, .bool false, .bool false, .bool false, .int .u8 0] := by kernel_rfl

set_option maxHeartbeats 4000000 in
theorem awake_any (w : World) : Calls Try.prog 9 #[] w (Gives (.bool true) w) := by
  apply Gives.of
  have HC := Lib.hid (show ∀ W, Calls Try.prog 15 #[.agg #[.int .u8 44, .int .u8 34, .int .i64 1], .string ⟨#[97, 10]⟩] W (RunPost 44 34 1 ⟨#[97, 10]⟩ W) from fun W => run_any 44 34 1 ⟨#[97, 10]⟩ W (by decide) (by decide))
  go_enter Try.func9, Try.ntmps9
  go_wp2_with fail
  go_at_call 15
  refine (HC.out _).mono ?_
  rintro e w1 ⟨k, kind, at_, v, hsays, rfl, hown, hb⟩
  obtain ⟨rfl, rfl, rfl⟩ := ex_says hsays
  obtain ⟨g, cap, rfl, hg0, hg1, hc1, hc2⟩ := owns_slice hown (by omega)
  rw [ex_cells] at hown
  have c0 : w1.cell? ⟨g, 0, none⟩ = some (.bool true) := hown.cellAt 0 (by omega)
  have c1 : w1.cell? ⟨g, 1, none⟩ = some (.bool true) := hown.cellAt 1 (by omega)
  have c2 : w1.cell? ⟨g, 2, none⟩ = some (.bool false) := hown.cellAt 2 (by omega)
  have c3 : w1.cell? ⟨g, 3, none⟩ = some (.bool false) := hown.cellAt 3 (by omega)
  have c4 : w1.cell? ⟨g, 4, none⟩ = some (.bool false) := hown.cellAt 4 (by omega)
  have c5 : w1.cell? ⟨g, 5, none⟩ = some (.int .u8 97) := hown.cellAt 5 (by omega)
  have c6 : w1.cell? ⟨g, 6, none⟩ = some (.bool false) := hown.cellAt 6 (by omega)
  have c7 : w1.cell? ⟨g, 7, none⟩ = some (.bool false) := hown.cellAt 7 (by omega)
  have c8 : w1.cell? ⟨g, 8, none⟩ = some (.bool false) := hown.cellAt 8 (by omega)
  have c9 : w1.cell? ⟨g, 9, none⟩ = some (.bool true) := hown.cellAt 9 (by omega)
  have c10 : w1.cell? ⟨g, 10, none⟩ = some (.bool true) := hown.cellAt 10 (by omega)
  have c11 : w1.cell? ⟨g, 11, none⟩ = some (.int .u8 0) := hown.cellAt 11 (by omega)
  have c12 : w1.cell? ⟨g, 12, none⟩ = some (.bool false) := hown.cellAt 12 (by omega)
  have c13 : w1.cell? ⟨g, 13, none⟩ = some (.bool false) := hown.cellAt 13 (by omega)
  have c14 : w1.cell? ⟨g, 14, none⟩ = some (.bool false) := hown.cellAt 14 (by omega)
  have c15 : w1.cell? ⟨g, 15, none⟩ = some (.bool false) := hown.cellAt 15 (by omega)
  have c16 : w1.cell? ⟨g, 16, none⟩ = some (.bool false) := hown.cellAt 16 (by omega)
  have c17 : w1.cell? ⟨g, 17, none⟩ = some (.int .u8 0) := hown.cellAt 17 (by omega)
  have HB := Lib.hid hb
  clear hown hb hsays
  go_wp2_with fail
  go_ret
  refine ⟨rfl, ?_⟩
  have hb := HB.out
  (repeat (first | (with_reducible exact hb) | (with_reducible exact Below.refl _ _) | (with_reducible refine later_below' _ ?_) | (with_reducible refine alloc_below ?_ _)))

end Go.Proofs.Ytmolcpfbbhmabaa
