/-
  Limits: whether they are right (where the document's own answer to that is not reached).
-/
import Derived.Test.YtdkdbmiafnadmaaRows
import Derived.Test.YtdkdbmiafnadmaaBase
import Derived.Handy
namespace Go.Proofs.Ytdkdbmiafnadmaa
open Go.RowKit

def fitsB (a b c : Int) : Bool := decide (1 ≤ a ∧ a ≤ 2147483648 ∧ 1 ≤ b ∧ b ≤ 2147483648 ∧ 1 ≤ c ∧ c ≤ 2147483648)
def limE (a b c : Int) : Int := if fitsB a b c = true then 0 else 2

set_option maxHeartbeats 1000000 in
theorem checkLimits_any (a b c : Int) (u : Bool) (w : World) :
    Calls Try.prog 50 #[.agg #[.int .i64 a, .int .i64 b, .int .i64 c, .bool u]] w (Gives (.int .i64 (limE a b c)) w) := by
  apply Gives.of
  have i0 : ∀ w, (Instr.index 56 (.agg #[.int .i64 a, .int .i64 b, .int .i64 c]) (.int .i64 0)).run Try.prog w = .ok (.int .i64 a) w := fun _ => by kernel_rfl
  have i1 : ∀ w, (Instr.index 56 (.agg #[.int .i64 a, .int .i64 b, .int .i64 c]) (.int .i64 1)).run Try.prog w = .ok (.int .i64 b) w := fun _ => by kernel_rfl
  have i2 : ∀ w, (Instr.index 56 (.agg #[.int .i64 a, .int .i64 b, .int .i64 c]) (.int .i64 2)).run Try.prog w = .ok (.int .i64 c) w := fun _ => by kernel_rfl
  go_enter Try.func50, Try.ntmps50
  go_wp2
  go_rounds 4
  all_goals (go_ret; refine ⟨ret_int ?_, by go_grown⟩; clear i0 i1 i2; unfold limE fitsB; simp only [decide_eq_true_eq]; first | (rw [if_pos (by omega)]; done) | (rw [if_neg (by omega)]; done))

theorem checkLimits_ok (a b c : Int) (u : Bool) (w : World) (h : fitsB a b c = true) : Calls Try.prog 50 #[.agg #[.int .i64 a, .int .i64 b, .int .i64 c, .bool u]] w (Gives (.int .i64 0) w) := by
  have e : limE a b c = 0 := by unfold limE; rw [if_pos h]
  exact e ▸ checkLimits_any a b c u w
theorem checkLimits_no (a b c : Int) (u : Bool) (w : World) (h : fitsB a b c = false) : Calls Try.prog 50 #[.agg #[.int .i64 a, .int .i64 b, .int .i64 c, .bool u]] w (Gives (.int .i64 2) w) := by
  have e : limE a b c = 2 := by unfold limE; rw [if_neg (by simp [h])]
  exact e ▸ checkLimits_any a b c u w

theorem refLimits_any (a b c : Int) (u : Bool) (w : World) :
    Calls Try.prog 10 #[.agg #[.int .i64 a, .int .i64 b, .int .i64 c, .bool u]] w (Gives (.agg #[.int .i64 a, .int .i64 b, .int .i64 c, .int .i64 (if u then 1 else 0)]) w) := by
  apply Gives.of
  cases u
  all_goals
    go_enter Try.func10, Try.ntmps10
    go_wp2
    go_returns
    exact ⟨rfl, by go_grown⟩

end Go.Proofs.Ytdkdbmiafnadmaa
