/-
  Walks: what the end comes to, by the program's call.
-/
import Derived.Test.YtdkdbmiafnadmaaRows
import Derived.Test.YtdkdbmiafnadmaaScanM
import Derived.Lib.Hide
namespace Go.Proofs.Ytdkdbmiafnadmaa
open Go.RowKit

def closeP (s : Nat) : Value := .tuple #[evP (closeV s).ev, .int .i64 (closeV s).er]
set_option maxHeartbeats 4000000 in
theorem close_any (s : Nat) (w : World) (hs : s ≤ 6) : Calls Try.prog 58 #[.int .i64 s] w (Gives (closeP s) w) := by
  apply Gives.of
  have hk : s = 0 ∨ s = 1 ∨ s = 2 ∨ s = 3 ∨ s = 4 ∨ s = 5 ∨ s = 6 := by omega
  rcases hk with rfl | rfl | rfl | rfl | rfl | rfl | rfl
  · go_enter Try.func58, Try.ntmps58
    go_wp2
    refine bodyPost_ret (v := closeP 0) (by simp (maxDischargeDepth := 8) [results, Try.results58, go_sem, closeP, closeV, evP, ev0]) rfl ⟨rfl, ?_⟩
    (repeat (first | (with_reducible exact Below.refl _ _) | (with_reducible refine later_below _ ?_) | (with_reducible refine alloc_below ?_ _) | (with_reducible refine Below.drew ?_) | (refine Below.setCell ?_ (by first | exact Nat.le_refl _ | (simp; done) | (simp; omega) | omega) _)))
  · go_enter Try.func58, Try.ntmps58
    go_wp2
    refine bodyPost_ret (v := closeP 1) (by simp (maxDischargeDepth := 8) [results, Try.results58, go_sem, closeP, closeV, evP]) rfl ⟨rfl, ?_⟩
    (repeat (first | (with_reducible exact Below.refl _ _) | (with_reducible refine later_below _ ?_) | (with_reducible refine alloc_below ?_ _) | (with_reducible refine Below.drew ?_) | (refine Below.setCell ?_ (by first | exact Nat.le_refl _ | (simp; done) | (simp; omega) | omega) _)))
  · go_enter Try.func58, Try.ntmps58
    go_wp2
    refine bodyPost_ret (v := closeP 2) (by simp (maxDischargeDepth := 8) [results, Try.results58, go_sem, closeP, closeV, evP]) rfl ⟨rfl, ?_⟩
    (repeat (first | (with_reducible exact Below.refl _ _) | (with_reducible refine later_below _ ?_) | (with_reducible refine alloc_below ?_ _) | (with_reducible refine Below.drew ?_) | (refine Below.setCell ?_ (by first | exact Nat.le_refl _ | (simp; done) | (simp; omega) | omega) _)))
  · go_enter Try.func58, Try.ntmps58
    go_wp2
    refine bodyPost_ret (v := closeP 3) (by simp (maxDischargeDepth := 8) [results, Try.results58, go_sem, closeP, closeV, evP, ev0]) rfl ⟨rfl, ?_⟩
    (repeat (first | (with_reducible exact Below.refl _ _) | (with_reducible refine later_below _ ?_) | (with_reducible refine alloc_below ?_ _) | (with_reducible refine Below.drew ?_) | (refine Below.setCell ?_ (by first | exact Nat.le_refl _ | (simp; done) | (simp; omega) | omega) _)))
  · go_enter Try.func58, Try.ntmps58
    go_wp2
    refine bodyPost_ret (v := closeP 4) (by simp (maxDischargeDepth := 8) [results, Try.results58, go_sem, closeP, closeV, evP]) rfl ⟨rfl, ?_⟩
    (repeat (first | (with_reducible exact Below.refl _ _) | (with_reducible refine later_below _ ?_) | (with_reducible refine alloc_below ?_ _) | (with_reducible refine Below.drew ?_) | (refine Below.setCell ?_ (by first | exact Nat.le_refl _ | (simp; done) | (simp; omega) | omega) _)))
  · go_enter Try.func58, Try.ntmps58
    go_wp2
    refine bodyPost_ret (v := closeP 5) (by simp (maxDischargeDepth := 8) [results, Try.results58, go_sem, closeP, closeV, evP, ev0]) rfl ⟨rfl, ?_⟩
    (repeat (first | (with_reducible exact Below.refl _ _) | (with_reducible refine later_below _ ?_) | (with_reducible refine alloc_below ?_ _) | (with_reducible refine Below.drew ?_) | (refine Below.setCell ?_ (by first | exact Nat.le_refl _ | (simp; done) | (simp; omega) | omega) _)))
  · go_enter Try.func58, Try.ntmps58
    go_wp2
    refine bodyPost_ret (v := closeP 6) (by simp (maxDischargeDepth := 8) [results, Try.results58, go_sem, closeP, closeV, evP, ev0]) rfl ⟨rfl, ?_⟩
    (repeat (first | (with_reducible exact Below.refl _ _) | (with_reducible refine later_below _ ?_) | (with_reducible refine alloc_below ?_ _) | (with_reducible refine Below.drew ?_) | (refine Below.setCell ?_ (by first | exact Nat.le_refl _ | (simp; done) | (simp; omega) | omega) _)))


end Go.Proofs.Ytdkdbmiafnadmaa
