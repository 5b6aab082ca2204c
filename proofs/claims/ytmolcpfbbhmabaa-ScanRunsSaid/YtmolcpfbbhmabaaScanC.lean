/-
  Walks: what the end comes to; the events as the laws compare them.
-/
import Derived.Test.YtmolcpfbbhmabaaRows
import Derived.Test.YtmolcpfbbhmabaaScanM
import Derived.Lib.Hide
import Derived.StillTailTactics
namespace Go.Proofs.Ytmolcpfbbhmabaa
open Go.RowKit

theorem wp_still_tail_drew {P : Program} {id : Nat} {Q : Exit → Act → World → Prop} {a : Act} {w : World} {l : List Oper} (n : Nat) (hm : P.follows .mixedOrders = true) (hB : Region.lexTailB .any l.toArray n = true)
    (h : wpStill P l.toArray w.drew (fun a' => wpList P l.toArray Q (l.drop n) a' w.drew) (l.take n) a) : (Code.region id l.toArray true).wp P Q a w := wp_region_still_tail n hm hB h

def closeP (s : Nat) : Value := .tuple #[evP (closeV s).ev, .int .i64 (closeV s).er]
def closeR (s : Nat) : Value := .tuple #[evR (closeV s).ev, .int .i64 (closeV s).er]

set_option maxHeartbeats 4000000 in
theorem close_any (s : Nat) (w : World) (hs : s ≤ 6) : Calls Try.prog 13 #[.int .i64 s] w (Gives (closeP s) w) := by
  apply Gives.of
  have hk : s = 0 ∨ s = 1 ∨ s = 2 ∨ s = 3 ∨ s = 4 ∨ s = 5 ∨ s = 6 := by omega
  rcases hk with rfl | rfl | rfl | rfl | rfl | rfl | rfl
  · go_enter Try.func13, Try.ntmps13
    go_wp2
    refine bodyPost_ret (v := closeP 0) (by simp (maxDischargeDepth := 8) [results, Try.results13, go_sem, closeP, closeV, evP, ev0]) rfl ⟨rfl, ?_⟩
    (repeat (first | (with_reducible exact Below.refl _ _) | (with_reducible refine later_below _ ?_) | (with_reducible refine alloc_below ?_ _) | (with_reducible refine Below.drew ?_) | (refine Below.setCell ?_ (by first | exact Nat.le_refl _ | (simp; done) | (simp; omega) | omega) _)))
  · go_enter Try.func13, Try.ntmps13
    go_wp2
    refine bodyPost_ret (v := closeP 1) (by simp (maxDischargeDepth := 8) [results, Try.results13, go_sem, closeP, closeV, evP]) rfl ⟨rfl, ?_⟩
    (repeat (first | (with_reducible exact Below.refl _ _) | (with_reducible refine later_below _ ?_) | (with_reducible refine alloc_below ?_ _) | (with_reducible refine Below.drew ?_) | (refine Below.setCell ?_ (by first | exact Nat.le_refl _ | (simp; done) | (simp; omega) | omega) _)))
  · go_enter Try.func13, Try.ntmps13
    go_wp2
    refine bodyPost_ret (v := closeP 2) (by simp (maxDischargeDepth := 8) [results, Try.results13, go_sem, closeP, closeV, evP]) rfl ⟨rfl, ?_⟩
    (repeat (first | (with_reducible exact Below.refl _ _) | (with_reducible refine later_below _ ?_) | (with_reducible refine alloc_below ?_ _) | (with_reducible refine Below.drew ?_) | (refine Below.setCell ?_ (by first | exact Nat.le_refl _ | (simp; done) | (simp; omega) | omega) _)))
  · go_enter Try.func13, Try.ntmps13
    go_wp2
    refine bodyPost_ret (v := closeP 3) (by simp (maxDischargeDepth := 8) [results, Try.results13, go_sem, closeP, closeV, evP, ev0]) rfl ⟨rfl, ?_⟩
    (repeat (first | (with_reducible exact Below.refl _ _) | (with_reducible refine later_below _ ?_) | (with_reducible refine alloc_below ?_ _) | (with_reducible refine Below.drew ?_) | (refine Below.setCell ?_ (by first | exact Nat.le_refl _ | (simp; done) | (simp; omega) | omega) _)))
  · go_enter Try.func13, Try.ntmps13
    go_wp2
    refine bodyPost_ret (v := closeP 4) (by simp (maxDischargeDepth := 8) [results, Try.results13, go_sem, closeP, closeV, evP]) rfl ⟨rfl, ?_⟩
    (repeat (first | (with_reducible exact Below.refl _ _) | (with_reducible refine later_below _ ?_) | (with_reducible refine alloc_below ?_ _) | (with_reducible refine Below.drew ?_) | (refine Below.setCell ?_ (by first | exact Nat.le_refl _ | (simp; done) | (simp; omega) | omega) _)))
  · go_enter Try.func13, Try.ntmps13
    go_wp2
    refine bodyPost_ret (v := closeP 5) (by simp (maxDischargeDepth := 8) [results, Try.results13, go_sem, closeP, closeV, evP, ev0]) rfl ⟨rfl, ?_⟩
    (repeat (first | (with_reducible exact Below.refl _ _) | (with_reducible refine later_below _ ?_) | (with_reducible refine alloc_below ?_ _) | (with_reducible refine Below.drew ?_) | (refine Below.setCell ?_ (by first | exact Nat.le_refl _ | (simp; done) | (simp; omega) | omega) _)))
  · go_enter Try.func13, Try.ntmps13
    go_wp2
    refine bodyPost_ret (v := closeP 6) (by simp (maxDischargeDepth := 8) [results, Try.results13, go_sem, closeP, closeV, evP, ev0]) rfl ⟨rfl, ?_⟩
    (repeat (first | (with_reducible exact Below.refl _ _) | (with_reducible refine later_below _ ?_) | (with_reducible refine alloc_below ?_ _) | (with_reducible refine Below.drew ?_) | (refine Below.setCell ?_ (by first | exact Nat.le_refl _ | (simp; done) | (simp; omega) | omega) _)))

set_option maxHeartbeats 4000000 in
theorem rclose_any (s : Nat) (w : World) (hs : s ≤ 6) : Calls Try.prog 14 #[.int .i64 s] w (Gives (closeR s) w) := by
  apply Gives.of
  have hk : s = 0 ∨ s = 1 ∨ s = 2 ∨ s = 3 ∨ s = 4 ∨ s = 5 ∨ s = 6 := by omega
  have i0 : ∀ (W : World) (x0 x1 x2 x3 x4 x5 x6 : Value), (Instr.index 55 (.agg #[x0, x1, x2, x3, x4, x5, x6]) (.int .i64 0)).run Try.prog W = .ok x0 W := fun _ _ _ _ _ _ _ _ => by kernel_rfl
  have i1 : ∀ (W : World) (x0 x1 x2 x3 x4 x5 x6 : Value), (Instr.index 55 (.agg #[x0, x1, x2, x3, x4, x5, x6]) (.int .i64 1)).run Try.prog W = .ok x1 W := fun _ _ _ _ _ _ _ _ => by kernel_rfl
  have i2 : ∀ (W : World) (x0 x1 x2 x3 x4 x5 x6 : Value), (Instr.index 55 (.agg #[x0, x1, x2, x3, x4, x5, x6]) (.int .i64 2)).run Try.prog W = .ok x2 W := fun _ _ _ _ _ _ _ _ => by kernel_rfl
  have i3 : ∀ (W : World) (x0 x1 x2 x3 x4 x5 x6 : Value), (Instr.index 55 (.agg #[x0, x1, x2, x3, x4, x5, x6]) (.int .i64 3)).run Try.prog W = .ok x3 W := fun _ _ _ _ _ _ _ _ => by kernel_rfl
  have i4 : ∀ (W : World) (x0 x1 x2 x3 x4 x5 x6 : Value), (Instr.index 55 (.agg #[x0, x1, x2, x3, x4, x5, x6]) (.int .i64 4)).run Try.prog W = .ok x4 W := fun _ _ _ _ _ _ _ _ => by kernel_rfl
  have i5 : ∀ (W : World) (x0 x1 x2 x3 x4 x5 x6 : Value), (Instr.index 55 (.agg #[x0, x1, x2, x3, x4, x5, x6]) (.int .i64 5)).run Try.prog W = .ok x5 W := fun _ _ _ _ _ _ _ _ => by kernel_rfl
  have i6 : ∀ (W : World) (x0 x1 x2 x3 x4 x5 x6 : Value), (Instr.index 55 (.agg #[x0, x1, x2, x3, x4, x5, x6]) (.int .i64 6)).run Try.prog W = .ok x6 W := fun _ _ _ _ _ _ _ _ => by kernel_rfl
  rcases hk with rfl | rfl | rfl | rfl | rfl | rfl | rfl
  · go_enter Try.func14, Try.ntmps14
    go_wp2
    go_region
    go_wp2
    refine bodyPost_ret (v := closeR 0) (by simp (maxDischargeDepth := 8) [results, Try.results14, go_sem, closeR, closeV, evR, ev0, n01]) rfl ⟨rfl, ?_⟩
    (repeat (first | (with_reducible exact Below.refl _ _) | (with_reducible refine later_below _ ?_) | (with_reducible refine alloc_below ?_ _) | (with_reducible refine Below.drew ?_) | (refine Below.setCell ?_ (by first | exact Nat.le_refl _ | (simp; done) | (simp; omega) | omega) _)))
  · go_enter Try.func14, Try.ntmps14
    go_wp2
    go_region
    go_wp2
    refine bodyPost_ret (v := closeR 1) (by simp (maxDischargeDepth := 8) [results, Try.results14, go_sem, closeR, closeV, evR, n01]) rfl ⟨rfl, ?_⟩
    (repeat (first | (with_reducible exact Below.refl _ _) | (with_reducible refine later_below _ ?_) | (with_reducible refine alloc_below ?_ _) | (with_reducible refine Below.drew ?_) | (refine Below.setCell ?_ (by first | exact Nat.le_refl _ | (simp; done) | (simp; omega) | omega) _)))
  · go_enter Try.func14, Try.ntmps14
    go_wp2
    go_region
    go_wp2
    refine bodyPost_ret (v := closeR 2) (by simp (maxDischargeDepth := 8) [results, Try.results14, go_sem, closeR, closeV, evR, n01]) rfl ⟨rfl, ?_⟩
    (repeat (first | (with_reducible exact Below.refl _ _) | (with_reducible refine later_below _ ?_) | (with_reducible refine alloc_below ?_ _) | (with_reducible refine Below.drew ?_) | (refine Below.setCell ?_ (by first | exact Nat.le_refl _ | (simp; done) | (simp; omega) | omega) _)))
  · go_enter Try.func14, Try.ntmps14
    go_wp2
    go_region
    go_wp2
    refine bodyPost_ret (v := closeR 3) (by simp (maxDischargeDepth := 8) [results, Try.results14, go_sem, closeR, closeV, evR, ev0, n01]) rfl ⟨rfl, ?_⟩
    (repeat (first | (with_reducible exact Below.refl _ _) | (with_reducible refine later_below _ ?_) | (with_reducible refine alloc_below ?_ _) | (with_reducible refine Below.drew ?_) | (refine Below.setCell ?_ (by first | exact Nat.le_refl _ | (simp; done) | (simp; omega) | omega) _)))
  · go_enter Try.func14, Try.ntmps14
    go_wp2
    go_region
    go_wp2
    refine bodyPost_ret (v := closeR 4) (by simp (maxDischargeDepth := 8) [results, Try.results14, go_sem, closeR, closeV, evR, n01]) rfl ⟨rfl, ?_⟩
    (repeat (first | (with_reducible exact Below.refl _ _) | (with_reducible refine later_below _ ?_) | (with_reducible refine alloc_below ?_ _) | (with_reducible refine Below.drew ?_) | (refine Below.setCell ?_ (by first | exact Nat.le_refl _ | (simp; done) | (simp; omega) | omega) _)))
  · go_enter Try.func14, Try.ntmps14
    go_wp2
    go_region
    go_wp2
    refine bodyPost_ret (v := closeR 5) (by simp (maxDischargeDepth := 8) [results, Try.results14, go_sem, closeR, closeV, evR, ev0, n01]) rfl ⟨rfl, ?_⟩
    (repeat (first | (with_reducible exact Below.refl _ _) | (with_reducible refine later_below _ ?_) | (with_reducible refine alloc_below ?_ _) | (with_reducible refine Below.drew ?_) | (refine Below.setCell ?_ (by first | exact Nat.le_refl _ | (simp; done) | (simp; omega) | omega) _)))
  · go_enter Try.func14, Try.ntmps14
    go_wp2
    go_region
    go_wp2
    refine bodyPost_ret (v := closeR 6) (by simp (maxDischargeDepth := 8) [results, Try.results14, go_sem, closeR, closeV, evR, ev0, n01]) rfl ⟨rfl, ?_⟩
    (repeat (first | (with_reducible exact Below.refl _ _) | (with_reducible refine later_below _ ?_) | (with_reducible refine alloc_below ?_ _) | (with_reducible refine Below.drew ?_) | (refine Below.setCell ?_ (by first | exact Nat.le_refl _ | (simp; done) | (simp; omega) | omega) _)))

theorem one_same (b : Bool) (w : World) : Calls Try.prog 20 #[.bool b] w (fun e w' => e = .returned (.int .i64 (n01 b)) ∧ w' = w) := by
  cases b
  all_goals
    go_enter Try.func20, Try.ntmps20
    go_wp2
    go_ret
    exact ⟨rfl, rfl⟩

set_option maxHeartbeats 4000000 in
theorem lref_any (v : Ev) (w : World) (hv : v.by_ ≤ 255) : Calls Try.prog 12 #[evP v] w (Gives (evR v) w) := by
  apply Gives.of
  unfold evP
  have hw : wrap64 (v.by_ : Int) = v.by_ := by unfold wrap64; omega
  have HO := Lib.hid one_same
  go_enter Try.func12, Try.ntmps12
  go_wp2
  refine wp_still_tail_drew 19 (by kernel_rfl) (by kernel_rfl) ?_
  simp only [List.take_succ_cons, List.take_zero, List.drop_succ_cons, List.drop_zero]
  repeat (first | still_step | still_call (HO.out _ _))
  refine wpStill_nil ?_
  go_wp2
  refine bodyPost_ret (v := evR v) (by simp (maxDischargeDepth := 8) [results, Try.results12, go_sem, evR]) rfl ⟨rfl, ?_⟩
  (repeat (first | (with_reducible exact Below.refl _ _) | (with_reducible refine later_below _ ?_) | (with_reducible refine alloc_below ?_ _) | (with_reducible refine Below.drew ?_) | (refine Below.setCell ?_ (by first | exact Nat.le_refl _ | (simp; done) | (simp; omega) | omega) _)))

end Go.Proofs.Ytmolcpfbbhmabaa
