/-
  Walks: an event in the document's words.
-/
import Derived.Test.YtgmejmnfdeacoaaRows
import Derived.Test.YtgmejmnfdeacoaaEv
import Derived.Lib.Hide
import Derived.StillTailTactics
namespace Go.Proofs.Ytgmejmnfdeacoaa
open Go.RowKit

theorem wp_still_tail_drew' {P : Program} {id : Nat} {Q : Exit → Act → World → Prop} {a : Act} {w : World} {l : List Oper} (n : Nat) (hm : P.follows .mixedOrders = true) (hB : Region.lexTailB .any l.toArray n = true)
    (h : wpStill P l.toArray w.drew (fun a' => wpList P l.toArray Q (l.drop n) a' w.drew) (l.take n) a) : (Code.region id l.toArray true).wp P Q a w := wp_region_still_tail n hm hB h

theorem one_same (b : Bool) (w : World) : Calls Try.prog 22 #[.bool b] w (fun e w' => e = .returned (.int .i64 (n01 b)) ∧ w' = w) := by
  cases b
  all_goals
    go_enter Try.func22, Try.ntmps22
    go_wp2
    go_ret
    exact ⟨rfl, rfl⟩

set_option maxHeartbeats 4000000 in
theorem lref_any (v : Ev) (w : World) (hv : v.by_ ≤ 255) : Calls Try.prog 16 #[evP v] w (Gives (evR v) w) := by
  apply Gives.of
  unfold evP
  have hw : wrap64 (v.by_ : Int) = v.by_ := by unfold wrap64; omega
  have HO := Lib.hid one_same
  go_enter Try.func16, Try.ntmps16
  go_wp2
  refine wp_still_tail_drew' 19 (by kernel_rfl) (by kernel_rfl) ?_
  simp only [List.take_succ_cons, List.take_zero, List.drop_succ_cons, List.drop_zero]
  repeat (first | still_step | still_call (HO.out _ _))
  refine wpStill_nil ?_
  go_wp2
  refine bodyPost_ret (v := evR v) (by simp (maxDischargeDepth := 8) [results, Try.results16, go_sem, evR]) rfl ⟨rfl, ?_⟩
  (repeat (first | (with_reducible exact Below.refl _ _) | (with_reducible refine later_below _ ?_) | (with_reducible refine alloc_below ?_ _) | (with_reducible refine Below.drew ?_) | (refine Below.setCell ?_ (by first | exact Nat.le_refl _ | (simp; done) | (simp; omega) | omega) _)))

end Go.Proofs.Ytgmejmnfdeacoaa
