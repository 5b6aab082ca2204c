/-
  Walks: are two records one?
-/
import Derived.Test.YtajedohgcepkiaaDoorRows
import Derived.Test.YtajedohgcepkiaaDoorStrs
import Derived.Lib.Hide
namespace Go.Proofs.YtajedohgcepkiaaDoor
open Go.RowKit

theorem list_ext_upto {L M : List ByteArray} (hl : L.length = M.length) (h : ∀ j, j < L.length → L[j]? = M[j]?) : L = M := by
  apply List.ext_getElem?
  intro j
  by_cases hj : j < L.length
  · exact h j hj
  · rw [List.getElem?_eq_none (by omega), List.getElem?_eq_none (by omega)]

theorem text_ne {s t : ByteArray} (h : s ≠ t) : (s.toList == t.toList) = false := by
  rw [beq_eq_false_iff_ne, ByteArray.toList_eq, ByteArray.toList_eq]
  intro hc
  exact h (ByteArray.ext (Array.toList_inj.1 hc))

set_option maxHeartbeats 1000000 in
theorem same_any (v1 v2 : Value) (L M : List ByteArray) (w : World) (h1 : Strs w v1 L) (h2 : Strs w v2 M) : Calls Tryd.prog 20 #[v1, v2] w (Gives (.bool (decide (L = M))) w) := by
  apply Gives.of
  obtain ⟨A, c, rfl, hc1, hc2, hA⟩ := h1
  obtain ⟨B, d, rfl, hd1, hd2, hB⟩ := h2
  unfold maxLen at hc2 hd2
  by_cases hl : L.length = M.length
  · have n1 : ((L.length : Int) != (M.length : Int)) = false := by simp; omega
    have n2 : decide ((L.length : Int) = (M.length : Int)) = true := decide_eq_true (by omega)
    have HA := Lib.hid hA
    have HB := Lib.hid hB
    have HL := Lib.hid hl
    clear hA hB hl
    go_enter Tryd.func20, Tryd.ntmps20
    go_wp2
    go_loopw [13] (fun i (wr : World) => ∃ k : Nat, k ≤ L.length ∧ i = .int .i64 k ∧ (∀ j, j < k → L[j]? = M[j]?) ∧ Below w.heap.size w wr) (fun i _ => L.length - (intOf i).toNat)
    case atStart => exact ⟨0, by omega, rfl, fun j hj => by omega, Below.refl _ _⟩
    case round =>
      obtain ⟨k, hk, rfl, hj, hb⟩ := hrel
      have HJ := Lib.hid hj
      have HBW := Lib.hid hb
      clear hj hb
      by_cases c1 : k < L.length
      · have e1 : decide (k < L.length) = true := decide_eq_true c1
        have i1 : (k : Int) < (L.length : Int) := by omega
        have i2 : (k : Int) < (M.length : Int) := by have := HL.out; omega
        obtain ⟨s, hs⟩ : ∃ s, L[k]? = some s := ⟨_, List.getElem?_eq_getElem c1⟩
        obtain ⟨t, ht⟩ : ∃ t, M[k]? = some t := ⟨_, List.getElem?_eq_getElem (by have := HL.out; omega)⟩
        obtain ⟨a, rfl, ha⟩ := HA.out k s hs
        obtain ⟨b, rfl, hb⟩ := HB.out k t ht
        have ha' := (HBW.out.cell (World.block_lt_of_cell? w _ ha)).trans ha
        have hb' := (HBW.out.cell (World.block_lt_of_cell? w _ hb)).trans hb
        have xa := fun (x : Later wr) => x.below.cell (p := a.add k) (World.block_lt_of_cell? wr _ ha')
        have xb := fun (x : Later wr) => x.below.cell (p := b.add k) (World.block_lt_of_cell? wr _ hb')
        have HS := Lib.hid hs
        have HT := Lib.hid ht
        clear hs ht ha hb
        by_cases c3 : s = t
        · subst c3
          go_wp2
          refine wp_region_later_lit (by kernel_rfl) (by kernel_rfl) ?_
          repeat (go_big_quiet_step (fail))
          refine wpQuiet_nil ?_
          rintro w' ⟨y, rfl⟩
          go_wp2
          go_roundw
          case rel => exact ⟨k + 1, by omega, by go_num, fun j hj' => (by
            by_cases e : j = k
            · rw [e, HS.out, HT.out]
            · exact HJ.out j (by omega)), later_below' y HBW.out⟩
          case measure => simp [intOf]; omega
        · have e3 := text_ne c3
          have H3 := Lib.hid c3
          clear c3
          go_wp2
          refine wp_region_later_lit (by kernel_rfl) (by kernel_rfl) ?_
          repeat (go_big_quiet_step (fail))
          refine wpQuiet_nil ?_
          rintro w' ⟨y, rfl⟩
          go_wp2
          go_ret
          refine ⟨ret_bool ?_, later_below' y HBW.out⟩
          symm
          apply decide_eq_false
          intro hc
          have := HS.out
          rw [hc, HT.out] at this
          exact H3.out (by injection this with this; exact this.symm)
      · obtain rfl : k = L.length := by omega
        have e1 : decide (L.length < L.length) = false := decide_eq_false (by omega)
        have i1 : ¬ (L.length : Int) < (L.length : Int) := by omega
        go_wp2
        go_ret
        refine ⟨ret_bool ?_, HBW.out⟩
        symm
        exact decide_eq_true (list_ext_upto HL.out HJ.out)
  · have n1 : ((L.length : Int) != (M.length : Int)) = true := by simp; omega
    have n2 : decide ((L.length : Int) = (M.length : Int)) = false := decide_eq_false (by omega)
    have HL := Lib.hid hl
    clear hl
    go_enter Tryd.func20, Tryd.ntmps20
    go_wp2
    go_ret
    refine ⟨ret_bool ?_, Below.refl _ _⟩
    symm
    exact decide_eq_false (fun hc => HL.out (by rw [hc]))

end Go.Proofs.YtajedohgcepkiaaDoor
