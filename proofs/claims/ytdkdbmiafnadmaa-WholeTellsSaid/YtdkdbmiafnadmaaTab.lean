/-
  Words for tables: a slice of slices of strings; are two of them one?
-/
import Derived.Test.YtdkdbmiafnadmaaRows
import Derived.Test.YtdkdbmiafnadmaaSame
namespace Go.Proofs.Ytdkdbmiafnadmaa
open Go.RowKit

/-- A slice of slices that reads as a table. -/
def Tbl (w : World) (v : Value) (T : List (List ByteArray)) : Prop :=
  ∃ A c, v = .slice A T.length c ∧ T.length ≤ c ∧ c ≤ maxLen ∧ ∀ j L, T[j]? = some L → ∃ a r, A = some a ∧ w.cell? (a.add j) = some r ∧ Strs w r L
theorem Tbl.below {w w' : World} {v : Value} {T : List (List ByteArray)} (h : Tbl w v T) (hb : Below w.heap.size w w') : Tbl w' v T := by
  obtain ⟨A, c, h1, h2, h3, h4⟩ := h
  refine ⟨A, c, h1, h2, h3, fun j L hL => ?_⟩
  obtain ⟨a, r, ha, hc, hs⟩ := h4 j L hL
  exact ⟨a, r, ha, (hb.cell (World.block_lt_of_cell? w _ hc)).trans hc, hs.below hb⟩

theorem tab_ext_upto {T U : List (List ByteArray)} (hl : T.length = U.length) (h : ∀ j, j < T.length → T[j]? = U[j]?) : T = U := by
  apply List.ext_getElem?
  intro j
  by_cases hj : j < T.length
  · exact h j hj
  · rw [List.getElem?_eq_none (by omega), List.getElem?_eq_none (by omega)]

set_option maxHeartbeats 1000000 in
theorem sameTable_any (v1 v2 : Value) (T U : List (List ByteArray)) (w : World) (h1 : Tbl w v1 T) (h2 : Tbl w v2 U) : Calls Try.prog 12 #[v1, v2] w (Gives (.bool (decide (T = U))) w) := by
  apply Gives.of
  obtain ⟨A, c, rfl, hc1, hc2, hA⟩ := h1
  obtain ⟨B, d, rfl, hd1, hd2, hB⟩ := h2
  unfold maxLen at hc2 hd2
  by_cases hl : T.length = U.length
  · have n1 : ((T.length : Int) != (U.length : Int)) = false := by simp; omega
    have n2 : decide ((T.length : Int) = (U.length : Int)) = true := decide_eq_true (by omega)
    have HA := Lib.hid hA
    have HB := Lib.hid hB
    have HL := Lib.hid hl
    clear hA hB hl
    go_enter Try.func12, Try.ntmps12
    go_wp2
    go_loopw [13] (fun i (wr : World) => ∃ k : Nat, k ≤ T.length ∧ i = .int .i64 k ∧ (∀ j, j < k → T[j]? = U[j]?) ∧ Below w.heap.size w wr) (fun i _ => T.length - (intOf i).toNat)
    case atStart => exact ⟨0, by omega, rfl, fun j hj => by omega, Below.refl _ _⟩
    case round =>
      obtain ⟨k, hk, rfl, hj, hb⟩ := hrel
      have HJ := Lib.hid hj
      have HBW := Lib.hid hb
      clear hj hb
      by_cases c1 : k < T.length
      · have e1 : decide (k < T.length) = true := decide_eq_true c1
        have i1 : (k : Int) < (T.length : Int) := by omega
        have i2 : (k : Int) < (U.length : Int) := by have := HL.out; omega
        obtain ⟨s, hs⟩ : ∃ s, T[k]? = some s := ⟨_, List.getElem?_eq_getElem c1⟩
        obtain ⟨t, ht⟩ : ∃ t, U[k]? = some t := ⟨_, List.getElem?_eq_getElem (by have := HL.out; omega)⟩
        obtain ⟨a, r, rfl, ha, hra⟩ := HA.out k s hs
        obtain ⟨b, u, rfl, hb, hrb⟩ := HB.out k t ht
        have ha' := (HBW.out.cell (World.block_lt_of_cell? w _ ha)).trans ha
        have hb' := (HBW.out.cell (World.block_lt_of_cell? w _ hb)).trans hb
        have xa := fun (x : Later wr) => x.below.cell (p := a.add k) (World.block_lt_of_cell? wr _ ha')
        have xb := fun (x : Later wr) => x.below.cell (p := b.add k) (World.block_lt_of_cell? wr _ hb')
        have HC : Hid (∀ x : Later wr, Calls Try.prog 16 #[r, u] x.w (Gives (.bool (decide (s = t))) x.w)) := Lib.hid (fun x => same_any r u s t x.w ((hra.below HBW.out).below x.below) ((hrb.below HBW.out).below x.below))
        have HS := Lib.hid hs
        have HT := Lib.hid ht
        clear hs ht ha hb hra hrb
        by_cases c3 : s = t
        · rw [show decide (s = t) = true from decide_eq_true c3] at HC
          have H3 := Lib.hid c3
          clear c3
          go_wp2
          refine wp_region_later_lit (by kernel_rfl) (by kernel_rfl) ?_
          repeat (go_big_quiet_step (first | (go_at_call 16; exact later_call _ (HC.out _))))
          refine wpQuiet_nil ?_
          rintro w' ⟨y, rfl⟩
          go_wp2
          go_roundw
          case rel => exact ⟨k + 1, by omega, by go_num, fun j hj' => (by
            by_cases e : j = k
            · rw [e, HS.out, HT.out, H3.out]
            · exact HJ.out j (by omega)), later_below' y HBW.out⟩
          case measure => simp [intOf]; omega
        · rw [show decide (s = t) = false from decide_eq_false c3] at HC
          have H3 := Lib.hid c3
          clear c3
          go_wp2
          refine wp_region_later_lit (by kernel_rfl) (by kernel_rfl) ?_
          repeat (go_big_quiet_step (first | (go_at_call 16; exact later_call _ (HC.out _))))
          refine wpQuiet_nil ?_
          rintro w' ⟨y, rfl⟩
          go_wp2
          go_ret
          refine ⟨ret_bool ?_, later_below' y HBW.out⟩
          symm
          apply decide_eq_false
          intro hc
          have := HS.out
          rw [hc, HT.out] at this
          exact H3.out (by injection this with this; exact this.symm)
      · obtain rfl : k = T.length := by omega
        have e1 : decide (T.length < T.length) = false := decide_eq_false (by omega)
        have i1 : ¬ (T.length : Int) < (T.length : Int) := by omega
        go_wp2
        go_ret
        refine ⟨ret_bool ?_, HBW.out⟩
        symm
        exact decide_eq_true (tab_ext_upto HL.out HJ.out)
  · have n1 : ((T.length : Int) != (U.length : Int)) = true := by simp; omega
    have n2 : decide ((T.length : Int) = (U.length : Int)) = false := decide_eq_false (by omega)
    have HL := Lib.hid hl
    clear hl
    go_enter Try.func12, Try.ntmps12
    go_wp2
    go_ret
    refine ⟨ret_bool ?_, Below.refl _ _⟩
    symm
    exact decide_eq_false (fun hc => HL.out (by rw [hc]))

end Go.Proofs.Ytdkdbmiafnadmaa
