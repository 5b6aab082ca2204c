/-
  Walks: a text without its mark, by the document's calls.
-/
import Derived.Test.YtajedohgcepkiaaDoorRows
import Derived.Test.YtajedohgcepkiaaDoorMem
import Derived.Test.YtajedohgcepkiaaDoorBmM
import Derived.Lib.Hide
namespace Go.Proofs.YtajedohgcepkiaaDoor.Bom
open Go.RowKit

def hasB (s : ByteArray) (n : Nat) : Bool := decide (n ≤ preN s)

set_option maxHeartbeats 1000000 in
theorem has_any (s : ByteArray) (n : Nat) (w : World) (hs : s.size ≤ maxLen) (hn : n ≤ 3) : Calls Tryd.prog 33 #[.string s, .int .i64 n] w (Gives (.bool (hasB s n)) w) := by
  apply Gives.of
  have HP := Lib.hid (pre_is s)
  have HL := Lib.hid (preN_le s)
  unfold maxLen at hs
  by_cases hlen : s.size < n
  · have hf : hasB s n = false := by unfold hasB; have := HL.out; refine decide_eq_false ?_; omega
    rw [hf]
    clear hf
    go_enter Tryd.func33, Tryd.ntmps33
    go_wp2
    go_ret
    refine ⟨rfl, ?_⟩
    (repeat (first | (with_reducible exact Below.refl _ _) | (with_reducible refine later_below _ ?_) | (with_reducible refine alloc_below ?_ _) | (with_reducible refine Below.drew ?_) | (refine Below.setCell ?_ (by first | exact Nat.le_refl _ | (simp; done) | (simp; omega) | omega) _)))
  · obtain ⟨r, hr⟩ : ∃ r, hasB s n = r := ⟨_, rfl⟩
    rw [hr]
    have HR := Lib.hid hr
    clear hr
    go_enter Tryd.func33, Tryd.ntmps33
    go_wp2
    go_loopw [5] (fun i (wr : World) => ∃ k : Nat, k ≤ n ∧ i = .int .i64 k ∧ (∀ j, j < k → byt s j = mk j) ∧ Below w.heap.size w wr) (fun i _ => n - (intOf i).toNat)
    case atStart => exact ⟨0, by omega, rfl, fun j hj => by omega, Below.refl _ _⟩
    case round =>
      obtain ⟨k, hk, rfl, hj, hb⟩ := hrel
      have HJ := Lib.hid hj
      clear hj
      by_cases hkn : k < n
      · have hk3 : k = 0 ∨ k = 1 ∨ k = 2 := by omega
        rcases hk3 with rfl | rfl | rfl
        · have e0 := byt_eq s 0 (by omega)
          have i0 : ∀ W : World, (Instr.index 78 (.agg #[.int .u8 239, .int .u8 187, .int .u8 191]) (.int .i64 0)).run Tryd.prog W = .ok (.int .u8 239) W := fun _ => by kernel_rfl
          have hI : (0 : Int) < (n : Int) := by omega
          by_cases hm : byt s 0 = 239
          · have hq : (byt s 0 == 239) = true := by simp [hm]
            have hq' : (byt s 0 != 239) = false := by simp [hm]
            have HM := Lib.hid hm
            clear hm
            go_wp2
            refine wp_region_later_lit (by kernel_rfl) (by kernel_rfl) ?_
            repeat (go_big_quiet_step (fail))
            refine wpQuiet_nil ?_
            rintro w' ⟨y, rfl⟩
            go_wp2
            go_roundw
            case rel => exact ⟨1, by omega, by go_num, fun j hj' => (by
              by_cases e : j = 0
              · rw [e]; exact HM.out
              · exact HJ.out j (by omega)), (by (repeat (first | (with_reducible exact hb) | (with_reducible exact Below.refl _ _) | (with_reducible refine later_below _ ?_) | (with_reducible refine alloc_below ?_ _) | (with_reducible refine Below.drew ?_))))⟩
            case measure => simp [intOf]; omega
          · have hq : (byt s 0 == 239) = false := by simp [hm]
            have hq' : (byt s 0 != 239) = true := by simp [hm]
            have HM := Lib.hid hm
            clear hm
            have hr : r = false := by
              rw [← HR.out]
              unfold hasB
              refine decide_eq_false ?_
              intro hc
              exact HM.out (HP.out.2.1 0 (by omega))
            subst hr
            go_wp2
            refine wp_region_later_lit (by kernel_rfl) (by kernel_rfl) ?_
            repeat (go_big_quiet_step (fail))
            refine wpQuiet_nil ?_
            rintro w' ⟨y, rfl⟩
            go_wp2
            go_ret
            refine ⟨rfl, ?_⟩
            (repeat (first | (with_reducible exact hb) | (with_reducible exact Below.refl _ _) | (with_reducible refine later_below _ ?_) | (with_reducible refine alloc_below ?_ _) | (with_reducible refine Below.drew ?_)))
        · have e0 := byt_eq s 1 (by omega)
          have i0 : ∀ W : World, (Instr.index 78 (.agg #[.int .u8 239, .int .u8 187, .int .u8 191]) (.int .i64 1)).run Tryd.prog W = .ok (.int .u8 187) W := fun _ => by kernel_rfl
          have hI : (1 : Int) < (n : Int) := by omega
          by_cases hm : byt s 1 = 187
          · have hq : (byt s 1 == 187) = true := by simp [hm]
            have hq' : (byt s 1 != 187) = false := by simp [hm]
            have HM := Lib.hid hm
            clear hm
            go_wp2
            refine wp_region_later_lit (by kernel_rfl) (by kernel_rfl) ?_
            repeat (go_big_quiet_step (fail))
            refine wpQuiet_nil ?_
            rintro w' ⟨y, rfl⟩
            go_wp2
            go_roundw
            case rel => exact ⟨2, by omega, by go_num, fun j hj' => (by
              by_cases e : j = 1
              · rw [e]; exact HM.out
              · exact HJ.out j (by omega)), (by (repeat (first | (with_reducible exact hb) | (with_reducible exact Below.refl _ _) | (with_reducible refine later_below _ ?_) | (with_reducible refine alloc_below ?_ _) | (with_reducible refine Below.drew ?_))))⟩
            case measure => simp [intOf]; omega
          · have hq : (byt s 1 == 187) = false := by simp [hm]
            have hq' : (byt s 1 != 187) = true := by simp [hm]
            have HM := Lib.hid hm
            clear hm
            have hr : r = false := by
              rw [← HR.out]
              unfold hasB
              refine decide_eq_false ?_
              intro hc
              exact HM.out (HP.out.2.1 1 (by omega))
            subst hr
            go_wp2
            refine wp_region_later_lit (by kernel_rfl) (by kernel_rfl) ?_
            repeat (go_big_quiet_step (fail))
            refine wpQuiet_nil ?_
            rintro w' ⟨y, rfl⟩
            go_wp2
            go_ret
            refine ⟨rfl, ?_⟩
            (repeat (first | (with_reducible exact hb) | (with_reducible exact Below.refl _ _) | (with_reducible refine later_below _ ?_) | (with_reducible refine alloc_below ?_ _) | (with_reducible refine Below.drew ?_)))
        · have e0 := byt_eq s 2 (by omega)
          have i0 : ∀ W : World, (Instr.index 78 (.agg #[.int .u8 239, .int .u8 187, .int .u8 191]) (.int .i64 2)).run Tryd.prog W = .ok (.int .u8 191) W := fun _ => by kernel_rfl
          have hI : (2 : Int) < (n : Int) := by omega
          by_cases hm : byt s 2 = 191
          · have hq : (byt s 2 == 191) = true := by simp [hm]
            have hq' : (byt s 2 != 191) = false := by simp [hm]
            have HM := Lib.hid hm
            clear hm
            go_wp2
            refine wp_region_later_lit (by kernel_rfl) (by kernel_rfl) ?_
            repeat (go_big_quiet_step (fail))
            refine wpQuiet_nil ?_
            rintro w' ⟨y, rfl⟩
            go_wp2
            go_roundw
            case rel => exact ⟨3, by omega, by go_num, fun j hj' => (by
              by_cases e : j = 2
              · rw [e]; exact HM.out
              · exact HJ.out j (by omega)), (by (repeat (first | (with_reducible exact hb) | (with_reducible exact Below.refl _ _) | (with_reducible refine later_below _ ?_) | (with_reducible refine alloc_below ?_ _) | (with_reducible refine Below.drew ?_))))⟩
            case measure => simp [intOf]; omega
          · have hq : (byt s 2 == 191) = false := by simp [hm]
            have hq' : (byt s 2 != 191) = true := by simp [hm]
            have HM := Lib.hid hm
            clear hm
            have hr : r = false := by
              rw [← HR.out]
              unfold hasB
              refine decide_eq_false ?_
              intro hc
              exact HM.out (HP.out.2.1 2 (by omega))
            subst hr
            go_wp2
            refine wp_region_later_lit (by kernel_rfl) (by kernel_rfl) ?_
            repeat (go_big_quiet_step (fail))
            refine wpQuiet_nil ?_
            rintro w' ⟨y, rfl⟩
            go_wp2
            go_ret
            refine ⟨rfl, ?_⟩
            (repeat (first | (with_reducible exact hb) | (with_reducible exact Below.refl _ _) | (with_reducible refine later_below _ ?_) | (with_reducible refine alloc_below ?_ _) | (with_reducible refine Below.drew ?_)))
      · obtain rfl : k = n := by omega
        have hr : r = true := by
          rw [← HR.out]
          unfold hasB
          refine decide_eq_true ?_
          have hp := HP.out
          have hj := HJ.out
          refine Classical.byContradiction fun hc => ?_
          exact hp.2.2 (by omega) (hj (preN s) (by omega))
        subst hr
        go_wp2
        go_ret
        refine ⟨rfl, ?_⟩
        (repeat (first | (with_reducible exact hb) | (with_reducible exact Below.refl _ _) | (with_reducible refine later_below _ ?_) | (with_reducible refine alloc_below ?_ _) | (with_reducible refine Below.drew ?_)))

theorem has_three (s : ByteArray) (w : World) (hs : s.size ≤ maxLen) : Calls Tryd.prog 33 #[.string s, .int .i64 3] w (Gives (.bool (hadB s)) w) := by
  have h := has_any s 3 w hs (by omega)
  have e : hasB s 3 = hadB s := by unfold hasB hadB; have := preN_le s; exact decide_eq_decide.2 (by omega)
  rw [e] at h
  exact h

theorem strip_ref (s : ByteArray) (w : World) (hs : s.size ≤ maxLen) : Calls Tryd.prog 30 #[.string s] w (Gives (.tuple #[.string (stripS s), .int .i64 (hadN s)]) w) := by
  apply Gives.of
  have HH := Lib.hid (fun W => has_three s W hs)
  have HL := Lib.hid (preN_le s)
  unfold maxLen at hs
  by_cases h3 : preN s = 3
  · have hb : hadB s = true := by unfold hadB; exact decide_eq_true h3
    have e1 : stripS s = s.extract 3 s.size := by unfold stripS; rw [if_pos h3]
    have e2 : hadN s = 1 := by unfold hadN; rw [if_pos h3]
    have hsz : 3 ≤ s.size := by have := HL.out; omega
    rw [hb] at HH
    rw [e1, e2]
    clear hb e1 e2 h3
    go_enter Tryd.func30, Tryd.ntmps30
    go_wp2_with (go_at_call 33; (first | (with_reducible refine (later_call _ (HH.out _)).mono ?_) | (with_reducible refine (call_later (HH.out _)).mono ?_)); rintro e w' ⟨rfl, x, rfl⟩)
    go_ret2
    refine ⟨rfl, ?_⟩
    (repeat (first | (with_reducible exact Below.refl _ _) | (with_reducible refine later_below _ ?_) | (with_reducible refine alloc_below ?_ _) | (with_reducible refine Below.drew ?_) | (refine Below.setCell ?_ (by first | exact Nat.le_refl _ | (simp; done) | (simp; omega) | omega) _)))
  · have hb : hadB s = false := by unfold hadB; exact decide_eq_false h3
    have e1 : stripS s = s := by unfold stripS; rw [if_neg h3]
    have e2 : hadN s = 0 := by unfold hadN; rw [if_neg h3]
    rw [hb] at HH
    rw [e1, e2]
    clear hb e1 e2 h3
    go_enter Tryd.func30, Tryd.ntmps30
    go_wp2_with (go_at_call 33; (first | (with_reducible refine (later_call _ (HH.out _)).mono ?_) | (with_reducible refine (call_later (HH.out _)).mono ?_)); rintro e w' ⟨rfl, x, rfl⟩)
    go_ret2
    refine ⟨rfl, ?_⟩
    (repeat (first | (with_reducible exact Below.refl _ _) | (with_reducible refine later_below _ ?_) | (with_reducible refine alloc_below ?_ _) | (with_reducible refine Below.drew ?_) | (refine Below.setCell ?_ (by first | exact Nat.le_refl _ | (simp; done) | (simp; omega) | omega) _)))

end Go.Proofs.YtajedohgcepkiaaDoor.Bom
