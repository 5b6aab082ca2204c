/-
  Walks: a number within 0 and another one; all of a list, one behind the other.
-/
import Derived.Test.YtmfhnmdgcjlnpaaRows
import Derived.Test.YtmfhnmdgcjlnpaaApp
import Derived.Lib.Hide
namespace Go.Proofs.Ytmfhnmdgcjlnpaa
open Go.RowKit

theorem held_any (n m : Int) (w : World) : Calls Try.prog 23 #[.int .i64 n, .int .i64 m] w (Gives (.int .i64 (held n m)) w) := by
  apply Gives.of
  by_cases h1 : n < 0
  · have e1 : decide (n < 0) = true := decide_eq_true h1
    have e2 : held n m = 0 := if_pos h1
    rw [e2]
    go_enter Try.func23, Try.ntmps23
    go_wp2
    go_ret
    exact ⟨rfl, Below.refl _ _⟩
  · have e1 : decide (n < 0) = false := decide_eq_false h1
    by_cases h2 : n > m
    · have e2 : held n m = m := by unfold held; rw [if_neg h1, if_pos h2]
      rw [e2]
      go_enter Try.func23, Try.ntmps23
      go_wp2
      go_ret
      exact ⟨rfl, Below.refl _ _⟩
    · have e2 : held n m = n := by unfold held; rw [if_neg h1, if_neg h2]
      rw [e2]
      go_enter Try.func23, Try.ntmps23
      go_wp2
      go_ret
      exact ⟨rfl, Below.refl _ _⟩

theorem catB_size_take (L : List ByteArray) (k : Nat) : (catB (L.take k)).size ≤ (catB L).size := by
  conv => rhs; rw [← List.take_append_drop k L]
  rw [catB_append, ByteArray.size_append]
  omega
theorem take_succ' (L : List ByteArray) (k : Nat) (s : ByteArray) (h : L[k]? = some s) : L.take (k + 1) = L.take k ++ [s] := by
  rw [List.take_add_one, h]
  rfl

set_option maxHeartbeats 1000000 in
theorem joined_any (v : Value) (L : List ByteArray) (w : World) (h : Strs w v L) (hs : (catB L).size ≤ 9223372036854775807) :
    Calls Try.prog 12 #[v] w (Gives (.string (catB L)) w) := by
  apply Gives.of
  obtain ⟨A, c, rfl, hc1, hc2, hA⟩ := h
  unfold maxLen at hc2
  have HA := Lib.hid hA
  have HS := Lib.hid hs
  clear hA hs
  go_enter Try.func12, Try.ntmps12
  go_wp2
  go_loopw [3, 5, 8] (fun s _ i (wr : World) => ∃ k : Nat, k ≤ L.length ∧ i = .int .i64 k ∧ s = .string (catB (L.take k)) ∧ Below w.heap.size w wr) (fun _ _ i _ => L.length - (intOf i).toNat)
  case atStart => exact ⟨0, by omega, rfl, rfl, Below.refl _ _⟩
  case round =>
    obtain ⟨k, hk, rfl, rfl, hb⟩ := hrel
    have HBW := Lib.hid hb
    clear hb
    by_cases c1 : k < L.length
    · have i1 : (k : Int) < (L.length : Int) := by omega
      obtain ⟨s, hs⟩ : ∃ s, L[k]? = some s := ⟨_, List.getElem?_eq_getElem c1⟩
      obtain ⟨a, rfl, ha⟩ := HA.out k s hs
      have ha' := (HBW.out.cell (World.block_lt_of_cell? w _ ha)).trans ha
      have et := take_succ' L k s hs
      have es : catB (L.take (k + 1)) = catB (L.take k) ++ s := by rw [et, catB_snoc]
      have hlen : (catB (L.take k)).size + s.size ≤ 9223372036854775807 := by
        have := catB_size_take L (k + 1)
        rw [es, ByteArray.size_append] at this
        have := HS.out
        omega
      have HE := Lib.hid es
      clear es et hs ha
      go_wp2
      go_roundw
      case rel => exact ⟨k + 1, by omega, by go_num, by rw [HE.out], HBW.out⟩
      case measure => simp [intOf]; omega
    · obtain rfl : k = L.length := by omega
      have i1 : ¬ (L.length : Int) < (L.length : Int) := by omega
      go_wp2
      go_ret
      exact ⟨ret_string (by first | rfl | rw [List.take_length]), HBW.out⟩

end Go.Proofs.Ytmfhnmdgcjlnpaa
